/- The contract of the document's Sound: it tells SoundP. -/
import Derived.Test.YtgofpbdbeegoeaaGreatDoorFWIsq
import Derived.Test.YtgofpbdbeegoeaaGreatDoorFWMwo
namespace Go.Proofs.YtgofpbdbeegoeaaGreatDoor
open Go.ChangeShapes Go.WideShapes Go.ChangeAt Go.RowKit
set_option linter.unusedVariables false

theorem LiAt.setCell {K:Nat→Prop} {w:World} {v:Value} {L:List Int} {b:Nat} (h:LiAt K w v L) (hb:¬ K b) (k:Nat) (u:Value):LiAt K (w.setCell ⟨b,k,none⟩ u) v L:=by
 obtain ⟨A,cap,hv,hc,hi⟩:=h
 refine ⟨A,cap,hv,hc,fun i x hx=>?_⟩
 obtain ⟨b',o,h1,h2,h3,h4⟩:=hi i x hx
 have hne:b' ≠ b:=fun he=>hb (he ▸ h4)
 refine ⟨b',o,h1,by simpa using h2,?_,h4⟩
 have hh:=Below.heap_setCell w ⟨b,k,none⟩ u b' hne
 have:(w.setCell ⟨b,k,none⟩ u).cell? ⟨b',o+i * 1,none⟩=w.cell? ⟨b',o+i * 1,none⟩:=World.cell?_of_block hh
 exact this.trans h3
theorem LiAt.at_ {K:Nat→Prop} {w:World} {A:Option Addr} {n cap:Nat} {L:List Int} (h:LiAt K w (.slice A n cap) L) {m:Nat} {x:Int} (hx:L[m]?=some x):∃ b o,A=some ⟨b,o,none⟩∧w.cell? ⟨b,o+m,none⟩=some (.int .i64 x):=by
 obtain ⟨_,_,h1,_,h3⟩:=h
 injection h1 with e1 e2 e3
 subst e1
 obtain ⟨b,o,hA,_,hc,_⟩:=h3 m x hx
 refine ⟨b,o,hA,?_⟩
 have:=hc
 unfold IntAt at this
 rwa [Nat.mul_one] at this
theorem LiAt.slice {K:Nat→Prop} {w:World} {v:Value} {L:List Int} (h:LiAt K w v L):∃ A cap,v=.slice A L.length cap:=by
 obtain ⟨A,cap,hv,_⟩:=h
 exact ⟨A,cap,hv⟩
def SoPost (S:List St) (H:List Nat) (w:World) (e:Ending) (w':World):Prop:=Below w.heap.size w w'∧∃ bb,e=.returned (.bool bb)∧(bb=true ↔ SoundP S H)
theorem SoPost.no {S:List St} {H:List Nat} {w w':World} {e:Ending} (he:e=.returned (.bool false)) (hb:Below w.heap.size w w') (hn:¬ SoundP S H):SoPost S H w e w':=⟨hb,false,he,fun h=>(by cases h),fun h=>(hn h).elim⟩
theorem SoPost.yes {S:List St} {H:List Nat} {w w':World} {e:Ending} (he:e=.returned (.bool true)) (hb:Below w.heap.size w w') (hy:SoundP S H):SoPost S H w e w':=⟨hb,true,he,fun _=>hy,fun _=>rfl⟩
def SoK (S:List St) (A:Nat→Bool) (p:Int) (kd:Int) (y:Nat):Prop:=A y=true→(kd=5→(y:Int)=p)→((stAt S (y:Int)).kind=2→cntK A (kids S (y:Int))=1)∧((stAt S (y:Int)).kind=3→cntK A (kids S (y:Int))=(kids S (y:Int)).length)
theorem soAt_iff {S:List St} {H:List Nat} {s q:Nat} (hp:(stAt S (s:Int)).par=(q:Int)):SoAt S H s ↔ ∀ y:Nat,y < S.length→q≤y→SoK S (cloP S (stD S H (s:Int)) (q:Int)) (q:Int) (stAt S (s:Int)).kind y:=by
 unfold SoAt SoK
 rw [hp]
 constructor
 · intro h y hy hq
   exact h y hy (by omega)
 · intro h y hy hq
   exact h y hy (by omega)
theorem hist_parS {S:List St} (hT:Tame S) {k:Nat} (hk:k < S.length) (hh:histB (stAt S (k:Int)).kind=true):∃ q:Nat,(stAt S (k:Int)).par=(q:Int)∧q < S.length:=by
 have:=(isSt_iff.1 (hpar_of hT (k:Int) (isSt_of hk) hh).1)
 exact ⟨(stAt S (k:Int)).par.toNat,by omega,by omega⟩
set_option maxHeartbeats 16000000 in
set_option maxRecDepth 100000 in
theorem sound_any (vr:Int) (vs vt vh:Value) (C:Ch) (H:List Nat) (w:World) (hC:ChHas w vs vt C) (hH:HistAt w vh H) (hta:Tame C.sts) (hHl:H.length≤1000) :
 Calls Tryz.prog 10 #[.agg #[.int .i64 vr,vs,vt],vh] w (SoPost C.sts H w):=by
 have hlen:=hta.len
 have HTA:=Lib.hid hta
 have HC:=Lib.hid hC
 have HH:=Lib.hid hH
 obtain ⟨i1,hi1,hz1,hs1,hy1⟩:=info_parts Tryz.info4
 have HMK:Hid (∀ W:World,(Instr.makeSlice 55 (.int .i64 (C.sts.length:Int)) (.int .i64 (C.sts.length:Int))).run Tryz.prog W=.ok (.slice (some ⟨W.heap.size,0,none⟩) C.sts.length C.sts.length) (W.alloc (.cells (madeCells #[.bool false] C.sts.length) 4))):=Lib.hid (fun W=>by
  have:=run_make (P:=Tryz.prog) W 55 4 i1 (.bool false) Tryz.underlying55 hi1 hz1 .i64 .i64 (C.sts.length:Int) (C.sts.length:Int) (by omega) (by omega) (by rw [hy1]; omega) (by omega)
  rw [hs1] at this
  simpa [Value.cells] using this)
 have hpos:=hta.pos
 obtain ⟨b,o,scap,vi0,ve0,vx0,rfl,hscap,hbl,_,_⟩:=hC.st hpos
 obtain ⟨tA,tcap,rfl,-⟩:=RowsAt.slice hC.2
 obtain ⟨hA,hcap,rfl,-⟩:=RowsAt.slice hH
 have hb0:=below_box w (chBox vr (.slice (some ⟨b,o,none⟩) C.sts.length scap) (.slice tA C.trs.length tcap))
 have HG:=Lib.hid (goodF_any vr _ _ _ C H _ (hC.below hb0) (hH.below hb0) hta hHl)
 have HST:=Lib.hid (fun (k:Nat) (hk:k < C.sts.length) (W:World) (hb:Below w.heap.size w W)=>stands_any vr _ _ _ C H k w W hb hC hH (by omega) hHl hk)
 have HUP:=Lib.hid (fun (k:Nat) (hk:k < C.sts.length) (W:World) (hb:Below w.heap.size w W)=>rups_any vr _ _ C k W (hC.below hb) (by omega) hk)
 have HKD:=Lib.hid (fun (W:World) (x:Int) (hb:Below w.heap.size w W)=>rkids_any vr x _ _ C W (hC.below hb) (by omega))
 have HSK:Hid (∀ (k:Nat),k < C.sts.length→∀ W,Below w.heap.size w W→W.cell? ⟨b,o+k * 5,none⟩=some (.int .i64 (stAt C.sts (k:Int)).kind)∧W.cell? ⟨b,o+k * 5+1,none⟩=some (.int .i64 (stAt C.sts (k:Int)).par)):=Lib.hid (fun k hk W hW=>by
  obtain ⟨vi,ve,vx,hst,_⟩:=hC.st' hk
  have:=hst.below hW hbl
  exact ⟨this.1,this.2.1⟩)
 have HB0:=Lib.hid hb0
 clear hC hH hta hi1 hz1 hs1 hy1 hb0
 go_enter Tryz.func10,Tryz.ntmps10
 go_wp2_with fail
 refine HG.out.mono ?_
 rintro e w1 ⟨hb1,bb,rfl,hbb⟩
 have HB1:=Lib.hid hb1
 clear hb1 HG
 cases bb with
 | false =>
  have HN:Hid (¬ SoundP C.sts H):=Lib.hid (fun h=>by have:=hbb.2 h.1; cases this)
  clear hbb
  go_wp2_with fail
  go_ret
  exact .no rfl (below_boxed HB1.out) HN.out
 | true =>
  have HGD:=Lib.hid (hbb.1 rfl)
  clear hbb
  go_wp2_with fail
  go_loopw [6] (fun i wr=>∃ (k:Nat),k≤H.length∧i=.int .i64 (k:Int)∧Hid (∀ j,j < k→histAt H (j:Int) ≠ 0→SoAt C.sts H j)∧Hid (Below (w.alloc (chBox vr (.slice (some ⟨b,o,none⟩) C.sts.length scap) (.slice tA C.trs.length tcap))).heap.size (w.alloc (chBox vr (.slice (some ⟨b,o,none⟩) C.sts.length scap) (.slice tA C.trs.length tcap))) wr)) (fun i _=>H.length - (intOf i).toNat)
  case atStart=>exact ⟨0,Nat.zero_le _,rfl,Lib.hid (fun j hj=>by omega),HB1⟩
  case round =>
   clear HB1
   obtain ⟨k,hk,rfl,HK,HB⟩:=hrel
   obtain ⟨wo,rfl⟩:∃ wo:World,wo=wr:=⟨_,rfl⟩
   obtain ⟨x0,x1,x2⟩:=box_later HB.out
   by_cases hlt:k < H.length
   · have hhist:histAt H (k:Int)=H[k]:=by unfold histAt; rw [List.getD_eq_getElem?_getD,Int.toNat_natCast,List.getElem?_eq_getElem hlt]; rfl
     obtain ⟨_,_,q1,_,q3⟩:=HH.out.below (below_boxed HB.out)
     injection q1 with e1 e2 e3
     subst e1
     obtain ⟨hb,ho,hAA,hhbl,hhc⟩:=q3 k _ (List.getElem?_eq_getElem hlt)
     subst hAA
     have h0:=hhc.1
     rw [Nat.mul_one] at h0
     rw [← hhist] at h0
     clear hhc q3 e2 e3
     have HGK:=Lib.hid (HGD.out k hlt)
     have HKN:Hid ((histAt H (k:Int) ≠ 0→SoAt C.sts H k)→∀ j,j < k+1→histAt H (j:Int) ≠ 0→SoAt C.sts H j):=Lib.hid (fun h j hj hne=>by
      by_cases he:j=k
      · subst he; exact h hne
      · exact HK.out j (by omega) hne)
     have HNO:Hid (histAt H (k:Int) ≠ 0→¬ SoAt C.sts H k→¬ SoundP C.sts H):=Lib.hid (fun hne hns h=>hns (h.2 k hlt hne))
     obtain ⟨x,hx⟩:∃ x,histAt H (k:Int)=x:=⟨_,rfl⟩
     unfold GoodF at HGK
     rw [hx] at h0 HGK HKN HNO
     have HXX:=Lib.hid hx
     clear hhist hx
     by_cases hx0:x=0
     · subst hx0
       have HN:=Lib.hid (HKN.out (fun h=>absurd rfl h))
       clear HKN HNO HGK
       go_wp2_with fail
       go_roundw
       case rel=>exact ⟨k+1,by omega,by go_num,HN,HB⟩
       case measure=>simp [intOf]; omega
     · have hxb:((x:Int) == 0)=false:=by simp; omega
       obtain ⟨hkn,hkh,hok⟩:=HGK.out hx0
       obtain ⟨q,hq,hqn⟩:=hist_parS HTA.out hkn hkh
       have HIF:=Lib.hid (soAt_iff (H:=H) hq)
       have HKN2:=Lib.hid (fun h=>HKN.out (fun _=>h))
       have HNO2:=Lib.hid (HNO.out hx0)
       have HST2:=Lib.hid (HST.out k hkn)
       have HOK:=Lib.hid (fun x hx=>(hok x hx).1)
       have hRl:(stD C.sts H (k:Int)).length≤32:=by
        unfold stD membU
        rw [if_pos (by rw [HXX.out]; exact hx0),List.length_map]
        exact Nat.le_trans (List.length_filter_le _ _) (by rw [List.length_range]; exact Nat.le_refl _)
       obtain ⟨c0,c1⟩:=HSK.out k hkn _ (below_boxed HB.out)
       have HKK:=Lib.hid (HSK.out k hkn)
       rw [hq] at c1
       have hmk:=HMK.out wo
       have hHkl:k < C.sts.length:=hkn
       obtain ⟨R,hR⟩:∃ R,stD C.sts H (k:Int)=R:=⟨_,rfl⟩
       rw [hR] at HIF HST2 HOK hRl
       have HB2:=Lib.hid (HB.out.alloc HB.out.size (.cells (madeCells #[.bool false] C.sts.length) 4))
       have hwo:w.heap.size < wo.heap.size:=by have:=HB.out.size; simp at this; omega
       have HT2:Hid (TruAt (wo.alloc (.cells (madeCells #[.bool false] C.sts.length) 4)) wo.heap.size C.sts.length (cloP C.sts [] (q:Int))):=Lib.hid ⟨_,Blk.new _ _ _,by simp [madeCells],fun i hi=>by rw [clo_none]; simp [madeCells,hi,Nat.mod_one]⟩
       have h2l:wo.heap.size < (wo.alloc (.cells (madeCells #[.bool false] C.sts.length) 4)).heap.size:=by simp
       have HST3:=Lib.hid (HST2.out _ (below_boxed HB2.out))
       obtain ⟨z0,z1,z2⟩:=box_later HB2.out
       generalize wo.alloc (.cells (madeCells #[.bool false] C.sts.length) 4)=w2 at *
       obtain ⟨bl,hbl0⟩:∃ bl,wo.heap.size=bl:=⟨_,rfl⟩
       rw [hbl0] at hwo HT2 h2l hmk
       clear hok hx0 HKN HNO HGK hkh hR HST2 HXX
       go_wp2_with fail
       refine HST3.out.mono ?_
       rintro e w3 ⟨hb3,v3,rfl,hl3⟩
       obtain ⟨rA,rcap,rfl⟩:=hl3.slice
       have HB3:=Lib.hid (HB2.out.trans (hb3.mono HB2.out.size))
       have HT3:=Lib.hid (HT2.out.below hb3)
       have HL3:Hid (LiAt (fun b=>b ≠ bl) w3 (.slice rA R.length rcap) R):=Lib.hid (hl3.mono (fun b _ hb=>by rcases hb with hb | hb <;> omega))
       have h3l:bl < w3.heap.size:=Nat.lt_of_lt_of_le h2l hb3.size
       clear hb3 hl3 HST3 HT2 HB2 z0 z1 z2 x0 x1 x2 h0 c0 c1 hmk HB hbl0
       go_wp2_with fail
       go_loopw [10] (fun i wr=>∃ (m:Nat),m≤R.length∧i=.int .i64 (m:Int)∧Hid (TruAt wr bl C.sts.length (cloP C.sts (R.take m) (q:Int)))∧Hid (LiAt (fun b=>b ≠ bl) wr (.slice rA R.length rcap) R)∧Hid (Below (w.alloc (chBox vr (.slice (some ⟨b,o,none⟩) C.sts.length scap) (.slice tA C.trs.length tcap))).heap.size (w.alloc (chBox vr (.slice (some ⟨b,o,none⟩) C.sts.length scap) (.slice tA C.trs.length tcap))) wr)) (fun i _=>R.length - (intOf i).toNat)
       case atStart=>exact ⟨0,Nat.zero_le _,rfl,Lib.hid (by rw [List.take_zero]; exact HT3.out),HL3,HB3⟩
       case round =>
        clear HT3 HL3 HB3 h3l h2l
        obtain ⟨m,hm,rfl,HTm,HLm,HBm⟩:=hrel
        obtain ⟨wp,rfl⟩:∃ wp:World,wp=wr:=⟨_,rfl⟩
        have hblp:bl < wp.heap.size:=by
         obtain ⟨cur,h1,_⟩:=HTm.out
         exact h1.lt
        by_cases hlm:m < R.length
        · obtain ⟨j,hj,hjn⟩:=isSt_nat (HOK.out R[m] (List.getElem_mem hlm))
          have hgm:=List.getElem?_eq_getElem hlm
          rw [hj] at hgm
          obtain ⟨mb,mo,hmA,d0⟩:=HLm.out.at_ hgm
          have htk:R.take (m+1)=R.take m ++ [(j:Int)]:=by rw [List.take_add_one,List.getElem?_eq_getElem hlm,hj]; rfl
          have HTK:=Lib.hid htk
          subst hmA
          have HBD:=Lib.hid HBm.out.drew
          have HTD:=Lib.hid (HTm.out.below (Below.refl _ _).drew)
          have HLD:=Lib.hid (HLm.out.below (Below.refl _ _).drew)
          have HUD:=Lib.hid (HUP.out j hjn wp.drew (below_boxed HBD.out))
          obtain ⟨x0,x1,x2⟩:=box_later HBD.out
          have d0':wp.drew.cell? ⟨mb,mo+m,none⟩=some (.int .i64 (j:Int)):=d0
          have hbd:bl < wp.drew.heap.size:=hblp
          clear hgm htk hj d0
          go_wp2_with fail
          refine anyD_start (fun W=>(W.cell? ⟨w.heap.size,0,none⟩=some (.int .i64 vr)∧W.cell? ⟨w.heap.size,1,none⟩=some (.slice (some ⟨b,o,none⟩) C.sts.length scap)∧W.cell? ⟨w.heap.size,2,none⟩=some (.slice tA C.trs.length tcap))∧W.cell? ⟨mb,mo+m,none⟩=some (.int .i64 (j:Int))) (fun i=>[].contains i) (by kernel_rfl) ?_
          try simp only [Act.put,sx]
          generalize wp.drew=w4 at *
          refine anyD_l 0 (.agg #[.int .i64 vr,.slice (some ⟨b,o,none⟩) C.sts.length scap,.slice tA C.trs.length tcap]) (⟨⟨x0,x1,x2⟩,d0'⟩) ?_
          try simp only [Act.put,sx]
          refine anyD_t 1 (.slice (some ⟨mb,mo,none⟩) R.length rcap) ?_
          try simp only [Act.put,sx]
          refine anyD_t 2 (.int .i64 (m:Int)) ?_
          try simp only [Act.put,sx]
          refine anyD_t 3 (.pointer (some ⟨mb,mo+m,none⟩)) ?_
          try simp only [Act.put,sx]
          refine anyD_l 4 (.int .i64 (j:Int)) (⟨⟨x0,x1,x2⟩,d0'⟩) ?_
          try simp only [Act.put,sx]
          refine anyD_one (i:=5) rfl rfl (by kernel_rfl) (fun K HK=>?_)
          go_simp
          refine HUD.out.mono ?_
          rintro e w5 ⟨hb5,v5,rfl,hown5⟩
          obtain ⟨uA,ucap,rfl⟩:=own_slice hown5
          have HB5:=Lib.hid (HBD.out.trans (hb5.mono HBD.out.size))
          have HT5:=Lib.hid (HTD.out.below hb5)
          have HL5:=Lib.hid (HLD.out.below hb5)
          have HU5:Hid (LiAt (fun b=>b ≠ bl) w5 (.slice uA (ups C.sts (j:Int)).length ucap) (ups C.sts (j:Int))):=Lib.hid (LiAt.of_own hown5 (fun b hb=>by omega))
          obtain ⟨y0,y1,y2⟩:=box_later HB5.out
          have d5:=(hb5.cell (p:=⟨mb,mo+m,none⟩) (Lib.lt_of_cell d0')).trans d0'
          clear hb5 hown5 HBD HTD HLD HUD
          go_simp
          refine HK.out _ _ (fun _ hS=>⟨⟨y0,y1,y2⟩,d5⟩) ?_
          clear HK K
          try simp only [Act.put,sx]
          refine anyD_one (i:=6) rfl rfl (by kernel_rfl) (fun K HK=>?_)
          go_simp
          refine HK.out _ _ (fun _ hS=>⟨⟨y0,y1,y2⟩,d5⟩) ?_
          clear HK K
          try simp only [Act.put,sx]
          refine anyD_done (by kernel_rfl) ?_
          obtain ⟨t5,f5⟩:=HT5.out.cell hjn
          have hbw:w.heap.size≤bl:=by omega
          have HCUT:=Lib.hid (fun (z:Nat) (hz:z≤(ups C.sts (j:Int)).length) h1 h2 (y:Int)=>ups_cut (S:=C.sts) (x:=(j:Int)) (q:=(q:Int)) (by omega) (m:=z) hz h1 h2 y)
          have HUS:Hid (∀ u ∈ ups C.sts (j:Int),isSt C.sts u=true):=Lib.hid (fun u hu=>ups_isSt hu)
          have hul:(ups C.sts (j:Int)).length≤24:=by have:=ups_short C.sts (j:Int); omega
          have HTS:Hid (TruAt (w5.setCell ⟨bl,j,none⟩ (.bool true)) bl C.sts.length (fun y=>cloP C.sts (R.take m) (q:Int) y || (decide ((j:Int)=(y:Int)) || ((ups C.sts (j:Int)).take 0).contains (y:Int)))):=Lib.hid (HT5.out.put j true _ (fun i _=>by
           by_cases hij:i=j
           · subst hij; simp
           · have:decide ((j:Int)=(i:Int))=false:=by simpa using (by omega:¬ (j:Int)=i)
             rw [if_neg hij,this]
             simp))
          have HLS:=Lib.hid (HL5.out.setCell (b:=bl) (fun h=>h rfl) j (.bool true))
          have HUSS:=Lib.hid (HU5.out.setCell (b:=bl) (fun h=>h rfl) j (.bool true))
          have HBS:=Lib.hid (HB5.out.setCell (p:=⟨bl,j,none⟩) (by simp; omega) (.bool true))
          generalize ups C.sts (j:Int)=U at *
          clear HT5 HL5 HU5 HB5 y0 y1 y2
          go_wp2_with fail
          clear d5 d0' t5 f5
          generalize w5.setCell ⟨bl,j,none⟩ (.bool true)=w6 at *
          go_loopw [12] (fun i wr=>∃ (z:Nat),z≤U.length∧i=.int .i64 (z:Int)∧Hid (∀ (i:Nat) (u:Int),i < z→U[i]?=some u→(q:Int)≤u)∧Hid (TruAt wr bl C.sts.length (fun y=>cloP C.sts (R.take m) (q:Int) y || (decide ((j:Int)=(y:Int)) || (U.take z).contains (y:Int))))∧Hid (LiAt (fun b=>b ≠ bl) wr (.slice (some ⟨mb,mo,none⟩) R.length rcap) R)∧Hid (LiAt (fun b=>b ≠ bl) wr (.slice uA U.length ucap) U)∧Hid (Below (w.alloc (chBox vr (.slice (some ⟨b,o,none⟩) C.sts.length scap) (.slice tA C.trs.length tcap))).heap.size (w.alloc (chBox vr (.slice (some ⟨b,o,none⟩) C.sts.length scap) (.slice tA C.trs.length tcap))) wr)) (fun i _=>U.length - (intOf i).toNat)
          case atStart=>exact ⟨0,Nat.zero_le _,rfl,Lib.hid (fun i u h=>by omega),HTS,HLS,HUSS,HBS⟩
          case round =>
           clear HTS HLS HUSS HBS
           obtain ⟨z,hz,rfl,HP,HTz,HLz,HUz,HBz⟩:=hrel
           obtain ⟨wq,rfl⟩:∃ wq:World,wq=wr:=⟨_,rfl⟩
           by_cases hlz:z < U.length
           · obtain ⟨u,hu,hun⟩:=isSt_nat (HUS.out U[z] (List.getElem_mem hlz))
             have hgz:=List.getElem?_eq_getElem hlz
             rw [hu] at hgz
             obtain ⟨ub,uo,huA,d1⟩:=HUz.out.at_ hgz
             have htz:U.take (z+1)=U.take z ++ [(u:Int)]:=by rw [List.take_add_one,hgz]; rfl
             have HGZ:=Lib.hid hgz
             have HTZ:=Lib.hid htz
             subst huA
             clear hgz htz hu
             by_cases hqu:q≤u
             · obtain ⟨t6,f6⟩:=HTz.out.cell hun
               have HT7:Hid (TruAt (wq.setCell ⟨bl,u,none⟩ (.bool true)) bl C.sts.length (fun y=>cloP C.sts (R.take m) (q:Int) y || (decide ((j:Int)=(y:Int)) || (U.take (z+1)).contains (y:Int)))):=Lib.hid (HTz.out.put u true _ (fun i _=>by
                show (cloP C.sts (R.take m) (q:Int) i || (decide ((j:Int)=(i:Int)) || (U.take (z+1)).contains (i:Int)))=_
                rw [HTZ.out,List.contains_append]
                by_cases hiu:i=u
                · subst hiu; simp
                · have:[(u:Int)].contains (i:Int)=false:=by simpa using (by omega:¬ (i:Int)=u)
                  rw [if_neg hiu,this]
                  simp))
               have HL7:=Lib.hid (HLz.out.setCell (b:=bl) (fun h=>h rfl) u (.bool true))
               have HU7:=Lib.hid (HUz.out.setCell (b:=bl) (fun h=>h rfl) u (.bool true))
               have HB7:=Lib.hid (HBz.out.setCell (p:=⟨bl,u,none⟩) (by simp; omega) (.bool true))
               have HP7:Hid (∀ (i:Nat) (v:Int),i < z+1→U[i]?=some v→(q:Int)≤v):=Lib.hid (fun i v hi hv=>by
                by_cases hiz:i=z
                · subst hiz
                  rw [HGZ.out] at hv
                  injection hv with hv
                  omega
                · exact HP.out i v (by omega) hv)
               generalize ((cloP C.sts (R.take m) (q:Int) u || (decide ((j:Int)=(u:Int)) || (U.take z).contains (u:Int))))=old at *
               go_wp2_with fail
               go_roundw
               case rel=>exact ⟨z+1,by omega,by go_num,HP7,HT7,HL7,HU7,HB7⟩
               case measure=>simp [intOf]; omega
             · have hqu2:decide ((q:Int)≤(u:Int))=false:=decide_eq_false (by omega)
               have HEQ:Hid ((fun y=>cloP C.sts (R.take m) (q:Int) y || (decide ((j:Int)=(y:Int)) || (U.take z).contains (y:Int)))=cloP C.sts (R.take (m+1)) (q:Int)):=Lib.hid (by
                funext y
                rw [HTK.out,clo_snoc,HCUT.out z hz (fun i u=>HP.out i u) (fun v hv=>by rw [HGZ.out] at hv; injection hv with hv; omega) (y:Int)])
               rw [HEQ.out] at HTz
               clear HEQ
               go_wp2_with fail
               go_roundw
               case rel=>exact ⟨m+1,by omega,by go_num,HTz,HLz,HBz⟩
               case measure=>simp [intOf]; omega
           · obtain rfl:z=U.length:=by omega
             have HEQ:Hid ((fun y=>cloP C.sts (R.take m) (q:Int) y || (decide ((j:Int)=(y:Int)) || (U.take U.length).contains (y:Int)))=cloP C.sts (R.take (m+1)) (q:Int)):=Lib.hid (by
              funext y
              rw [HTK.out,clo_snoc,HCUT.out U.length hz (fun i u=>HP.out i u) (fun v hv=>by rw [List.getElem?_eq_none (Nat.le_refl _)] at hv; cases hv) (y:Int)])
             rw [HEQ.out] at HTz
             clear HEQ
             go_wp2_with fail
             go_roundw
             case rel=>exact ⟨m+1,by omega,by go_num,HTz,HLz,HBz⟩
             case measure=>simp [intOf]; omega
        · obtain rfl:m=R.length:=by omega
          rw [List.take_length] at HTm
          obtain ⟨A,hA⟩:∃ A,cloP C.sts R (q:Int)=A:=⟨_,rfl⟩
          rw [hA] at HTm HIF
          obtain ⟨kd,hkd⟩:∃ kd,(stAt C.sts (k:Int)).kind=kd:=⟨_,rfl⟩
          rw [hkd] at HIF HKK
          clear hA hkd HLm HOK
          go_wp2_with fail
          go_loopw [13] (fun i wr=>∃ (y:Nat),q≤y∧y≤C.sts.length∧i=.int .i64 (y:Int)∧Hid (∀ y':Nat,y' < y→q≤y'→SoK C.sts A (q:Int) kd y')∧Hid (TruAt wr bl C.sts.length A)∧Hid (Below (w.alloc (chBox vr (.slice (some ⟨b,o,none⟩) C.sts.length scap) (.slice tA C.trs.length tcap))).heap.size (w.alloc (chBox vr (.slice (some ⟨b,o,none⟩) C.sts.length scap) (.slice tA C.trs.length tcap))) wr)) (fun i _=>C.sts.length - (intOf i).toNat)
          case atStart=>exact ⟨q,Nat.le_refl _,by omega,rfl,Lib.hid (fun y' h1 h2=>by omega),HTm,HBm⟩
          case round =>
           clear HTm HBm
           obtain ⟨y,hqy,hyn,rfl,HKy,HTy,HBy⟩:=hrel
           obtain ⟨wq,rfl⟩:∃ wq:World,wq=wr:=⟨_,rfl⟩
           by_cases hly:y < C.sts.length
           · obtain ⟨ty,fy⟩:=HTy.out.cell hly
             obtain ⟨c0,c1⟩:=HKK.out _ (below_boxed HBy.out)
             obtain ⟨x0,x1,x2⟩:=box_later HBy.out
             have HNEXT:Hid (SoK C.sts A (q:Int) kd y→∀ y':Nat,y' < y+1→q≤y'→SoK C.sts A (q:Int) kd y'):=Lib.hid (fun h y' h1 h2=>by
              by_cases he:y'=y
              · subst he; exact h
              · exact HKy.out y' (by omega) h2)
             have HFAIL:Hid (¬ SoK C.sts A (q:Int) kd y→¬ SoundP C.sts H):=Lib.hid (fun h=>HNO2.out (fun hs=>h (HIF.out.1 hs y hly hqy)))
             cases hAy:A y with
             | false =>
              have HN:=Lib.hid (HNEXT.out (fun h=>by rw [hAy] at h; cases h))
              rw [hAy] at ty
              clear hAy HNEXT HFAIL
              go_wp2_with fail
              go_roundw
              case rel=>exact ⟨y+1,by omega,by omega,by go_num,HN,HTy,HBy⟩
              case measure=>simp [intOf]; omega
             | true =>
              rw [hAy] at ty
              unfold SoK at HNEXT HFAIL
              by_cases h5:kd=5
              · have h5b:(kd == 5)=true:=by simpa using h5
                by_cases hyq:y=q
                · subst hyq
                  have hyb:((y:Int) != (y:Int))=false:=by simp
                  have h5q:kd=5→(y:Int)=(y:Int):=fun _=>rfl
                  go_wp2_with fail
                  refine (HKD.out wq (y:Int) (below_boxed HBy.out)).mono ?_
                  rintro e w5 ⟨hb5,v5,rfl,ho5⟩
                  have HB5:=Lib.hid (HBy.out.trans (hb5.mono HBy.out.size))
                  have HT5:=Lib.hid (HTy.out.below hb5)
                  have HL5:=Lib.hid (list_of_own ho5)
                  obtain ⟨mA,mcap,rfl,hmc⟩:=RowsAt.slice HL5.out
                  have HKM:Hid (∀ x ∈ kids C.sts (y:Int),isSt C.sts x=true):=Lib.hid (fun x hx=>(kids_mem.1 hx).1)
                  have hkl:=kids_len C.sts (y:Int)
                  obtain ⟨p0,p1⟩:=HSK.out y hly w5 (below_boxed HB5.out)
                  obtain ⟨v0,v1,v2⟩:=box_later HB5.out
                  generalize kids C.sts (y:Int)=L at *
                  generalize (stAt C.sts (y:Int)).kind=Ks at *
                  clear hb5 ho5 c0 c1 x0 x1 x2 ty fy HTy
                  go_wp2_with fail
                  go_loopw [15,16] (fun nv i wr=>∃ (z:Nat),z≤L.length∧i=.int .i64 (z:Int)∧nv=.int .i64 (cntK A (L.take z):Int)∧wr=w5) (fun _ i _=>L.length - (intOf i).toNat)
                  case atStart=>exact ⟨0,Nat.zero_le _,rfl,rfl,rfl⟩
                  case round =>
                   obtain ⟨z,hz,rfl,rfl,rfl⟩:=hrel
                   by_cases hlz:z < L.length
                   · obtain ⟨j,hj,hjn⟩:=isSt_nat (HKM.out L[z] (List.getElem_mem hlz))
                     obtain ⟨mb,mo,hmA,hmbl,hmc0⟩:=(let ⟨_,_,h1,_,h3⟩:=HL5.out; by injection h1 with e1 e2 e3; subst e1; exact h3 z _ (List.getElem?_eq_getElem hlz):∃ b o,mA=some ⟨b,o,none⟩∧b < wr.heap.size∧(IntAt wr b (o+z * 1) L[z]))
                     subst hmA
                     have d0:wr.cell? ⟨mb,mo+z,none⟩=some (.int .i64 (j:Int)):=by have:=hmc0; unfold IntAt at this; rw [Nat.mul_one,hj] at this; exact this
                     have HSN:Hid (cntK A (L.take (z+1))=cntK A (L.take z)+if A j=true then 1 else 0):=Lib.hid (by rw [List.take_succ_eq_append_getElem hlz,cntK_snoc,hj,hasS_nat])
                     have hcl:cntK A (L.take z)≤24:=by have:=cntK_le A (L.take z); rw [List.length_take] at this; omega
                     obtain ⟨t6,f6⟩:=HT5.out.cell hjn
                     generalize cntK A (L.take z)=cc at *
                     clear hmc0 hj f6
                     cases hAj:A j with
                     | true =>
                      rw [hAj] at t6
                      rw [hAj,if_pos rfl] at HSN
                      clear hAj
                      go_wp2_with fail
                      go_roundw
                      case rel=>exact ⟨z+1,by omega,by go_num,by rw [HSN.out]; go_num,trivial⟩
                      case measure=>simp [intOf]; omega
                     | false =>
                      rw [hAj] at t6
                      rw [hAj,if_neg (by simp)] at HSN
                      clear hAj
                      go_wp2_with fail
                      go_roundw
                      case rel=>exact ⟨z+1,by omega,by go_num,by rw [HSN.out]; rfl,trivial⟩
                      case measure=>simp [intOf]; omega
                   · obtain rfl:z=L.length:=by omega
                     rw [List.take_length]
                     have hcl:cntK A L≤24:=by have:=cntK_le A L; omega
                     generalize cntK A L=cc at *
                     by_cases h2:Ks=2
                     · have h2b:(Ks == 2)=true:=by simpa using h2
                       have h3b:(Ks == 3)=false:=by rw [h2]; rfl
                       by_cases hc:cc=1
                       · have HN:=Lib.hid (HNEXT.out (fun _ _=>⟨fun _=>hc,fun h=>by omega⟩))
                         have hcb:((cc:Int) != 1)=false:=by simp; omega
                         clear h2 hc
                         go_wp2_with fail
                         go_roundw
                         case rel=>exact ⟨y+1,by omega,by omega,by go_num,HN,HT5,HB5⟩
                         case measure=>simp [intOf]; omega
                       · have HNS:=Lib.hid (HFAIL.out (fun h=>hc ((h hAy h5q).1 h2)))
                         have hcb:((cc:Int) != 1)=true:=by simp; omega
                         clear h2 hc
                         go_wp2_with fail
                         go_ret
                         exact .no rfl (below_boxed HB5.out) HNS.out
                     · have h2b:(Ks == 2)=false:=by simpa using h2
                       by_cases h3:Ks=3
                       · have h3b:(Ks == 3)=true:=by simpa using h3
                         by_cases hc:cc=L.length
                         · have HN:=Lib.hid (HNEXT.out (fun _ _=>⟨fun h=>absurd h h2,fun _=>hc⟩))
                           have hcb:((cc:Int) != (L.length:Int))=false:=by simp; omega
                           clear h2 h3 hc
                           go_wp2_with fail
                           go_roundw
                           case rel=>exact ⟨y+1,by omega,by omega,by go_num,HN,HT5,HB5⟩
                           case measure=>simp [intOf]; omega
                         · have HNS:=Lib.hid (HFAIL.out (fun h=>hc ((h hAy h5q).2 h3)))
                           have hcb:((cc:Int) != (L.length:Int))=true:=by simp; omega
                           clear h2 h3 hc
                           go_wp2_with fail
                           go_ret
                           exact .no rfl (below_boxed HB5.out) HNS.out
                       · have h3b:(Ks == 3)=false:=by simpa using h3
                         have HN:=Lib.hid (HNEXT.out (fun _ _=>⟨fun h=>absurd h h2,fun h=>absurd h h3⟩))
                         clear h2 h3
                         go_wp2_with fail
                         go_roundw
                         case rel=>exact ⟨y+1,by omega,by omega,by go_num,HN,HT5,HB5⟩
                         case measure=>simp [intOf]; omega
                · have hyb:((y:Int) != (q:Int))=true:=by simp; omega
                  have HN:=Lib.hid (HNEXT.out (fun _ h=>by have:=h h5; omega))
                  clear hAy HNEXT HFAIL h5
                  go_wp2_with fail
                  go_roundw
                  case rel=>exact ⟨y+1,by omega,by omega,by go_num,HN,HTy,HBy⟩
                  case measure=>simp [intOf]; omega
              · have h5b:(kd == 5)=false:=by simpa using h5
                have h5q:kd=5→(y:Int)=(q:Int):=fun h=>absurd h h5
                go_wp2_with fail
                refine (HKD.out wq (y:Int) (below_boxed HBy.out)).mono ?_
                rintro e w5 ⟨hb5,v5,rfl,ho5⟩
                have HB5:=Lib.hid (HBy.out.trans (hb5.mono HBy.out.size))
                have HT5:=Lib.hid (HTy.out.below hb5)
                have HL5:=Lib.hid (list_of_own ho5)
                obtain ⟨mA,mcap,rfl,hmc⟩:=RowsAt.slice HL5.out
                have HKM:Hid (∀ x ∈ kids C.sts (y:Int),isSt C.sts x=true):=Lib.hid (fun x hx=>(kids_mem.1 hx).1)
                have hkl:=kids_len C.sts (y:Int)
                obtain ⟨p0,p1⟩:=HSK.out y hly w5 (below_boxed HB5.out)
                obtain ⟨v0,v1,v2⟩:=box_later HB5.out
                generalize kids C.sts (y:Int)=L at *
                generalize (stAt C.sts (y:Int)).kind=Ks at *
                clear hb5 ho5 c0 c1 x0 x1 x2 ty fy HTy
                go_wp2_with fail
                go_loopw [15,16] (fun nv i wr=>∃ (z:Nat),z≤L.length∧i=.int .i64 (z:Int)∧nv=.int .i64 (cntK A (L.take z):Int)∧wr=w5) (fun _ i _=>L.length - (intOf i).toNat)
                case atStart=>exact ⟨0,Nat.zero_le _,rfl,rfl,rfl⟩
                case round =>
                 obtain ⟨z,hz,rfl,rfl,rfl⟩:=hrel
                 by_cases hlz:z < L.length
                 · obtain ⟨j,hj,hjn⟩:=isSt_nat (HKM.out L[z] (List.getElem_mem hlz))
                   obtain ⟨mb,mo,hmA,hmbl,hmc0⟩:=(let ⟨_,_,h1,_,h3⟩:=HL5.out; by injection h1 with e1 e2 e3; subst e1; exact h3 z _ (List.getElem?_eq_getElem hlz):∃ b o,mA=some ⟨b,o,none⟩∧b < wr.heap.size∧(IntAt wr b (o+z * 1) L[z]))
                   subst hmA
                   have d0:wr.cell? ⟨mb,mo+z,none⟩=some (.int .i64 (j:Int)):=by have:=hmc0; unfold IntAt at this; rw [Nat.mul_one,hj] at this; exact this
                   have HSN:Hid (cntK A (L.take (z+1))=cntK A (L.take z)+if A j=true then 1 else 0):=Lib.hid (by rw [List.take_succ_eq_append_getElem hlz,cntK_snoc,hj,hasS_nat])
                   have hcl:cntK A (L.take z)≤24:=by have:=cntK_le A (L.take z); rw [List.length_take] at this; omega
                   obtain ⟨t6,f6⟩:=HT5.out.cell hjn
                   generalize cntK A (L.take z)=cc at *
                   clear hmc0 hj f6
                   cases hAj:A j with
                   | true =>
                    rw [hAj] at t6
                    rw [hAj,if_pos rfl] at HSN
                    clear hAj
                    go_wp2_with fail
                    go_roundw
                    case rel=>exact ⟨z+1,by omega,by go_num,by rw [HSN.out]; go_num,trivial⟩
                    case measure=>simp [intOf]; omega
                   | false =>
                    rw [hAj] at t6
                    rw [hAj,if_neg (by simp)] at HSN
                    clear hAj
                    go_wp2_with fail
                    go_roundw
                    case rel=>exact ⟨z+1,by omega,by go_num,by rw [HSN.out]; rfl,trivial⟩
                    case measure=>simp [intOf]; omega
                 · obtain rfl:z=L.length:=by omega
                   rw [List.take_length]
                   have hcl:cntK A L≤24:=by have:=cntK_le A L; omega
                   generalize cntK A L=cc at *
                   by_cases h2:Ks=2
                   · have h2b:(Ks == 2)=true:=by simpa using h2
                     have h3b:(Ks == 3)=false:=by rw [h2]; rfl
                     by_cases hc:cc=1
                     · have HN:=Lib.hid (HNEXT.out (fun _ _=>⟨fun _=>hc,fun h=>by omega⟩))
                       have hcb:((cc:Int) != 1)=false:=by simp; omega
                       clear h2 hc
                       go_wp2_with fail
                       go_roundw
                       case rel=>exact ⟨y+1,by omega,by omega,by go_num,HN,HT5,HB5⟩
                       case measure=>simp [intOf]; omega
                     · have HNS:=Lib.hid (HFAIL.out (fun h=>hc ((h hAy h5q).1 h2)))
                       have hcb:((cc:Int) != 1)=true:=by simp; omega
                       clear h2 hc
                       go_wp2_with fail
                       go_ret
                       exact .no rfl (below_boxed HB5.out) HNS.out
                   · have h2b:(Ks == 2)=false:=by simpa using h2
                     by_cases h3:Ks=3
                     · have h3b:(Ks == 3)=true:=by simpa using h3
                       by_cases hc:cc=L.length
                       · have HN:=Lib.hid (HNEXT.out (fun _ _=>⟨fun h=>absurd h h2,fun _=>hc⟩))
                         have hcb:((cc:Int) != (L.length:Int))=false:=by simp; omega
                         clear h2 h3 hc
                         go_wp2_with fail
                         go_roundw
                         case rel=>exact ⟨y+1,by omega,by omega,by go_num,HN,HT5,HB5⟩
                         case measure=>simp [intOf]; omega
                       · have HNS:=Lib.hid (HFAIL.out (fun h=>hc ((h hAy h5q).2 h3)))
                         have hcb:((cc:Int) != (L.length:Int))=true:=by simp; omega
                         clear h2 h3 hc
                         go_wp2_with fail
                         go_ret
                         exact .no rfl (below_boxed HB5.out) HNS.out
                     · have h3b:(Ks == 3)=false:=by simpa using h3
                       have HN:=Lib.hid (HNEXT.out (fun _ _=>⟨fun h=>absurd h h2,fun h=>absurd h h3⟩))
                       clear h2 h3
                       go_wp2_with fail
                       go_roundw
                       case rel=>exact ⟨y+1,by omega,by omega,by go_num,HN,HT5,HB5⟩
                       case measure=>simp [intOf]; omega
           · obtain rfl:y=C.sts.length:=by omega
             have HSO:=Lib.hid (HKN2.out (HIF.out.2 (fun y' h1 h2=>HKy.out y' h1 h2)))
             go_wp2_with fail
             go_roundw
             case rel=>exact ⟨k+1,by omega,by go_num,HSO,HBy⟩
             case measure=>simp [intOf]; omega
   · obtain rfl:k=H.length:=by omega
     have HY:Hid (SoundP C.sts H):=Lib.hid ⟨HGD.out,HK.out⟩
     go_wp2_with fail
     go_ret
     exact .yes rfl (below_boxed HB.out) HY.out
end Go.Proofs.YtgofpbdbeegoeaaGreatDoor
