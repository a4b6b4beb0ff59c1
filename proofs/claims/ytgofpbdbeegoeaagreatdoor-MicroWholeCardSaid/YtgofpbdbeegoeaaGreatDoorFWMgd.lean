/- The contract of the document's Good, exactly. -/
import Derived.Test.YtgofpbdbeegoeaaGreatDoorFWEstepl
import Derived.Test.YtgofpbdbeegoeaaGreatDoorFWIbf
import Derived.Test.YtgofpbdbeegoeaaGreatDoorFWMsn
namespace Go.Proofs.YtgofpbdbeegoeaaGreatDoor
open Go.ChangeShapes Go.WideShapes Go.ChangeAt Go.RowKit
set_option linter.unusedVariables false

def OkX (S:List St) (s x:Int):Prop:=isSt S x=true∧histB (stAt S x).kind=false∧cIn S x (stAt S s).par=true∧((stAt S s).kind=5→(stAt S x).par=(stAt S s).par)∧((stAt S s).kind=6→(stAt S x).kind=1 ∨ (stAt S x).kind=4)
def GoodF (S:List St) (H:List Nat) (s:Nat):Prop:=histAt H (s:Int) ≠ 0→s < S.length∧histB (stAt S (s:Int)).kind=true∧∀ x ∈ stD S H (s:Int),OkX S (s:Int) x
theorem GoodF.weak {S:List St} {H:List Nat} {s:Nat} (h:GoodF S H s):GoodAt S H s:=fun h0=>⟨(h h0).1,(h h0).2.1,fun x hx=>⟨((h h0).2.2 x hx).1,((h h0).2.2 x hx).2.1⟩⟩
def GfPost (S:List St) (H:List Nat) (w:World) (e:Ending) (w':World):Prop:=Below w.heap.size w w'∧∃ bb,e=.returned (.bool bb)∧(bb=true ↔ ∀ s,s < H.length→GoodF S H s)
theorem GfPost.no {S:List St} {H:List Nat} {w w':World} {e:Ending} (he:e=.returned (.bool false)) (hb:Below w.heap.size w w') (hn:¬ ∀ s,s < H.length→GoodF S H s):GfPost S H w e w':=⟨hb,false,he,fun h=>(by cases h),fun h=>(hn h).elim⟩
theorem GfPost.yes {S:List St} {H:List Nat} {w w':World} {e:Ending} (he:e=.returned (.bool true)) (hb:Below w.heap.size w w') (hy:∀ s,s < H.length→GoodF S H s):GfPost S H w e w':=⟨hb,true,he,fun _=>hy,fun _=>rfl⟩
set_option maxHeartbeats 8000000 in
set_option maxRecDepth 100000 in
theorem goodF_any (vr:Int) (vs vt vh:Value) (C:Ch) (H:List Nat) (w:World) (hC:ChHas w vs vt C) (hH:HistAt w vh H) (hta:Tame C.sts) (hHl:H.length≤1000) :
 Calls Tryz.prog 27 #[.agg #[.int .i64 vr,vs,vt],vh] w (GfPost C.sts H w):=by
 have hlen:=hta.len
 have HC:=Lib.hid hC
 have HH:=Lib.hid hH
 have HTA:=Lib.hid hta
 obtain ⟨b,o,scap,vi0,ve0,vx0,rfl,hscap,hbl,_,_⟩:=hC.st hta.pos
 obtain ⟨hA,hcap,rfl,hhcap⟩:=RowsAt.slice hH
 clear hC hH hta
 go_enter Tryz.func27,Tryz.ntmps27
 go_wp2_with fail
 go_loopw [5] (fun i wr=>∃ (k:Nat),k≤H.length∧i=.int .i64 (k:Int)∧Hid (∀ s,s < k→GoodF C.sts H s)∧Hid (Below (w.alloc (chBox vr (.slice (some ⟨b,o,none⟩) C.sts.length scap) vt)).heap.size (w.alloc (chBox vr (.slice (some ⟨b,o,none⟩) C.sts.length scap) vt)) wr)) (fun i _=>H.length - (intOf i).toNat)
 case atStart=>exact ⟨0,Nat.zero_le _,rfl,Lib.hid (fun s h=>by omega),Lib.hid (Below.refl _ _)⟩
 case round =>
  obtain ⟨k,hk,rfl,HGD,HB⟩:=hrel
  obtain ⟨wo,rfl⟩:∃ wo:World,wo=wr:=⟨_,rfl⟩
  obtain ⟨x0,x1,x2⟩:=box_later HB.out
  by_cases hlt:k < H.length
  · obtain ⟨hb,ho,hcap',hv,_,hbl',hc,hlt'⟩:=HH.out.at hlt
    injection hv with e1 e2 e3
    subst e1; subst e3
    have hc1:=((below_boxed HB.out).cell (p:=⟨hb,ho+k,none⟩) hbl').trans hc
    clear hc
    have HNEXT:Hid (GoodF C.sts H k→∀ s,s < k+1→GoodF C.sts H s):=Lib.hid (fun h s hs=>by
     by_cases hsk:s=k
     · subst hsk; exact h
     · exact HGD.out s (by omega))
    by_cases hz:histAt H (k:Int)=0
    · have HN2:=Lib.hid (HNEXT.out (fun h=>absurd hz h))
      rw [hz] at hc1
      clear hz
      go_wp2_with fail
      go_roundw
      case rel=>exact ⟨k+1,by omega,by go_num,HN2,HB⟩
      case measure=>simp [intOf]; omega
    · have hzb:((histAt H (k:Int):Int) == 0)=false:=beq_false_of_ne (by omega)
      have HZ:=Lib.hid hz
      generalize hh:histAt H (k:Int)=h at *
      have HHE:=Lib.hid hh
      clear hz hh
      by_cases hkn:k < C.sts.length
      · have hge:decide ((C.sts.length:Int)≤(k:Int))=false:=by simp; omega
        have HPA:=Lib.hid (past_any vr (.slice (some ⟨b,o,none⟩) C.sts.length scap) vt C k wo (HC.out.below (below_boxed HB.out)) (by omega) hkn)
        obtain ⟨vi,ve,vx,hst,_⟩:=HC.out.st' hkn
        have HSK:Hid (∀ W,Below w.heap.size w W→W.cell? ⟨b,o+k * 5,none⟩=some (.int .i64 (stAt C.sts (k:Int)).kind)∧W.cell? ⟨b,o+k * 5+1,none⟩=some (.int .i64 (stAt C.sts (k:Int)).par)):=Lib.hid (fun W hW=>⟨(hst.below hW hbl).1,(hst.below hW hbl).2.1⟩)
        clear hst
        generalize hKs:(stAt C.sts (k:Int)).kind=Ks at *
        generalize hPs:(stAt C.sts (k:Int)).par=Ps at *
        cases hhk:histB Ks with
        | false =>
         rw [hhk] at HPA
         have HNB:Hid (¬ ∀ s,s < H.length→GoodF C.sts H s):=Lib.hid (fun h=>by
          have:=(h k hlt (by rw [HHE.out]; exact HZ.out)).2.1
          rw [hKs,hhk] at this
          cases this)
         clear hhk
         go_wp2_with fail
         refine HPA.out.mono ?_
         rintro e w1 ⟨rfl,hb1⟩
         have HB1:=Lib.hid (HB.out.trans (hb1.mono HB.out.size))
         clear hb1
         go_wp2_with fail
         go_ret
         exact .no rfl (below_boxed HB1.out) HNB.out
        | true =>
         rw [hhk] at HPA
         have HKS:=Lib.hid hhk
         have HSTD:=Lib.hid (fun (W:World) (hW:Below w.heap.size w W)=>stands_any vr (.slice (some ⟨b,o,none⟩) C.sts.length scap) vt _ C H k w W hW HC.out HH.out (by omega) hHl hkn)
         have hml:(stD C.sts H (k:Int)).length≤32:=by rw [stD_set (by rw [HHE.out]; exact HZ.out)]; exact membU_len _ _
         have HFIN:Hid ((∀ i,i < (stD C.sts H (k:Int)).length→OkX C.sts (k:Int) ((stD C.sts H (k:Int)).getD i 0))→GoodF C.sts H k):=Lib.hid (fun h _=>⟨hkn,by rw [hKs]; exact hhk,fun x hx=>by
          obtain ⟨i,hi⟩:=List.getElem?_of_mem hx
          have hil:=(List.getElem?_eq_some_iff.1 hi).1
          have:=h i hil
          rwa [show (stD C.sts H (k:Int)).getD i 0=x by simp [List.getD,hi]] at this⟩)
         have HBAD:Hid (∀ i,i < (stD C.sts H (k:Int)).length→¬ OkX C.sts (k:Int) ((stD C.sts H (k:Int)).getD i 0)→¬ ∀ s,s < H.length→GoodF C.sts H s):=Lib.hid (fun i hi hn h=>hn ((h k hlt (by rw [HHE.out]; exact HZ.out)).2.2 _ (by
          rw [List.getD_eq_getElem?_getD,List.getElem?_eq_getElem hi]
          exact List.getElem_mem hi)))
         have HKP:Hid ((stAt C.sts (k:Int)).kind=Ks∧(stAt C.sts (k:Int)).par=Ps):=Lib.hid ⟨hKs,hPs⟩
         generalize stD C.sts H (k:Int)=M at *
         clear hhk hKs hPs
         go_wp2_with fail
         refine HPA.out.mono ?_
         rintro e w1 ⟨rfl,hb1⟩
         have HB1:=Lib.hid (HB.out.trans (hb1.mono HB.out.size))
         obtain ⟨z0,z1,z2⟩:=box_later HB1.out
         clear hb1 x0 x1 x2
         go_wp2_with fail
         refine (HSTD.out w1 (below_boxed HB1.out)).mono ?_
         rintro e w2 ⟨hb2,v2,rfl,hl2⟩
         have HB2:=Lib.hid (HB1.out.trans (hb2.mono HB1.out.size))
         have HL2:=Lib.hid (LiAt.mono (K':=fun _=>True) hl2 fun _ _ _=>trivial)
         obtain ⟨mA,mcap,rfl,hmc⟩:=RowsAt.slice HL2.out
         clear hb2 hl2 z0 z1 z2 hc1 HB1 HPA HB
         go_wp2_with fail
         go_loopw [8] (fun i wr=>∃ (m:Nat),m≤M.length∧i=.int .i64 (m:Int)∧Hid (∀ i,i < m→OkX C.sts (k:Int) (M.getD i 0))∧Hid (Below (w.alloc (chBox vr (.slice (some ⟨b,o,none⟩) C.sts.length scap) vt)).heap.size (w.alloc (chBox vr (.slice (some ⟨b,o,none⟩) C.sts.length scap) vt)) wr)∧Hid (LiAt (fun _=>True) wr (.slice mA M.length mcap) M)) (fun i _=>M.length - (intOf i).toNat)
         case atStart=>exact ⟨0,Nat.zero_le _,rfl,Lib.hid (fun i h=>by omega),HB2,HL2⟩
         case round =>
          clear HB2 HL2
          obtain ⟨m,hm,rfl,HOK,HB,HL⟩:=hrel
          obtain ⟨wp,rfl⟩:∃ wp:World,wp=wr:=⟨_,rfl⟩
          obtain ⟨x0,x1,x2⟩:=box_later HB.out
          by_cases hlt2:m < M.length
          · obtain ⟨mb,mo,hmA,hmbl,hmc0,_⟩:=(let ⟨_,_,h1,_,h3⟩:=HL.out; by injection h1 with e1 e2 e3; subst e1; exact h3 m _ (List.getElem?_eq_getElem hlt2):∃ b o,mA=some ⟨b,o,none⟩∧b < wp.heap.size∧(IntAt wp b (o+m * 1) M[m])∧True)
            subst hmA
            have d0:wp.cell? ⟨mb,mo+m,none⟩=some (.int .i64 M[m]):=by have:=hmc0; unfold IntAt at this; rwa [Nat.mul_one] at this
            have HXM:Hid (M.getD m 0=M[m]):=Lib.hid (by simp [List.getD,List.getElem?_eq_getElem hlt2])
            have HTH:=Lib.hid (there_any vr M[m] (.slice (some ⟨b,o,none⟩) C.sts.length scap) vt C wp (HC.out.below (below_boxed HB.out)) (by omega))
            generalize M[m]=x at *
            clear hmc0
            cases hisx:isSt C.sts x with
            | false =>
             rw [hisx] at HTH
             have HNB:=Lib.hid (HBAD.out m hlt2 (fun h=>by
              have h1:=h.1
              rw [HXM.out,hisx] at h1
              cases h1))
             clear hisx
             go_wp2_with fail
             refine HTH.out.mono ?_
             rintro e w3 ⟨rfl,hb3⟩
             have HB3:=Lib.hid (HB.out.trans (hb3.mono HB.out.size))
             clear hb3
             go_wp2_with fail
             go_ret
             exact .no rfl (below_boxed HB3.out) HNB.out
            | true =>
             rw [hisx] at HTH
             have HISJ:=Lib.hid hisx
             obtain ⟨j,rfl,hj⟩:=isSt_nat hisx
             obtain ⟨vi,ve,vx,hst,_⟩:=HC.out.st' hj
             have HSJ:Hid (∀ W,Below w.heap.size w W→W.cell? ⟨b,o+j * 5,none⟩=some (.int .i64 (stAt C.sts (j:Int)).kind)∧W.cell? ⟨b,o+j * 5+1,none⟩=some (.int .i64 (stAt C.sts (j:Int)).par)):=Lib.hid (fun W hW=>⟨(hst.below hW hbl).1,(hst.below hW hbl).2.1⟩)
             clear hisx hst
             go_wp2_with fail
             refine HTH.out.mono ?_
             rintro e w3 ⟨rfl,hb3⟩
             have HB3:=Lib.hid (HB.out.trans (hb3.mono HB.out.size))
             have HL3:=Lib.hid (HL.out.below hb3)
             obtain ⟨z0,z1,z2⟩:=box_later HB3.out
             clear hb3 x0 x1 x2 d0
             go_wp2_with fail
             refine (past_any vr (.slice (some ⟨b,o,none⟩) C.sts.length scap) vt C j w3 (HC.out.below (below_boxed HB3.out)) (by omega) hj).mono ?_
             rintro e w5 ⟨rfl,hb5⟩
             have HB5:=Lib.hid (HB3.out.trans (hb5.mono HB3.out.size))
             have HL5:=Lib.hid (HL3.out.below hb5)
             clear hb5 z0 z1 z2 HB HB3 HL HL3
             go_wp2_with fail
             refine anyD_start (fun W=>(W.cell? ⟨w.heap.size,0,none⟩=some (.int .i64 vr)∧W.cell? ⟨w.heap.size,1,none⟩=some (.slice (some ⟨b,o,none⟩) C.sts.length scap)∧W.cell? ⟨w.heap.size,2,none⟩=some vt)∧W.cell? ⟨b,o+k * 5+1,none⟩=some (.int .i64 Ps)) (fun i=>[].contains i) (by kernel_rfl) ?_
             have HBD:=Lib.hid HB5.out.drew
             have HSD:Hid ((w5.drew.cell? ⟨w.heap.size,0,none⟩=some (.int .i64 vr)∧w5.drew.cell? ⟨w.heap.size,1,none⟩=some (.slice (some ⟨b,o,none⟩) C.sts.length scap)∧w5.drew.cell? ⟨w.heap.size,2,none⟩=some vt)∧w5.drew.cell? ⟨b,o+k * 5+1,none⟩=some (.int .i64 Ps)):=Lib.hid ⟨box_later HBD.out,(HSK.out _ (below_boxed HBD.out)).2⟩
             refine anyD_l 0 (.agg #[.int .i64 vr,.slice (some ⟨b,o,none⟩) C.sts.length scap,vt]) (HSD.out) ?_
             try simp only [Act.put,sx]
             refine anyD_t 1 (.int .i64 (j:Int)) ?_
             try simp only [Act.put,sx]
             refine anyD_t 2 (.pointer (some ⟨w.heap.size,1,none⟩)) ?_
             try simp only [Act.put,sx]
             refine anyD_l 3 (.slice (some ⟨b,o,none⟩) C.sts.length scap) (HSD.out) ?_
             try simp only [Act.put,sx]
             refine anyD_t 4 (.int .i64 (k:Int)) ?_
             try simp only [Act.put,sx]
             refine anyD_t 5 (.pointer (some ⟨b,o+k * 5,none⟩)) ?_
             try simp only [Act.put,sx]
             refine anyD_t 6 (.pointer (some ⟨b,o+k * 5+1,none⟩)) ?_
             try simp only [Act.put,sx]
             refine anyD_l 7 (.int .i64 Ps) (HSD.out) ?_
             try simp only [Act.put,sx]
             refine anyD_one (i:=8) rfl rfl (by kernel_rfl) (fun K HK=>?_)
             go_simp
             refine (rIn_any vr Ps _ vt C (by unfold Short; omega) _ (j:Int) _ (Nat.le_refl _) (HC.out.below (below_boxed HBD.out))).mono ?_
             rintro e w6 ⟨rfl,hb6⟩
             have HB6:=Lib.hid (HBD.out.trans (hb6.mono HBD.out.size))
             have HL6:=Lib.hid ((HL5.out.below (Below.refl _ w5).drew).below hb6)
             clear hb6
             go_simp
             refine HK.out _ _ (fun _ hS=>⟨box_later HB6.out,(HSK.out _ (below_boxed HB6.out)).2⟩) ?_
             clear HK K
             try simp only [Act.put,sx]
             refine anyD_t 9 (.bool (cIn C.sts (j:Int) Ps)) ?_
             try simp only [Act.put,sx]
             refine anyD_done (by kernel_rfl) ?_
             have HIFF:Hid (OkX C.sts (k:Int) (M.getD m 0) ↔ histB (stAt C.sts (j:Int)).kind=false∧cIn C.sts (j:Int) Ps=true∧(Ks=5→(stAt C.sts (j:Int)).par=Ps)∧(Ks=6→(stAt C.sts (j:Int)).kind=1 ∨ (stAt C.sts (j:Int)).kind=4)):=Lib.hid (by
              rw [HXM.out]
              unfold OkX
              rw [HKP.out.1,HKP.out.2,HISJ.out]
              simp)
             have HNO:=Lib.hid (HBAD.out m hlt2)
             generalize cIn C.sts (j:Int) Ps=inb at *
             obtain ⟨y0,y1,y2⟩:=box_later HB6.out
             obtain ⟨p0,p1⟩:=HSK.out _ (below_boxed HB6.out)
             obtain ⟨r0,r1⟩:=HSJ.out _ (below_boxed HB6.out)
             generalize hKx:(stAt C.sts (j:Int)).kind=Kx at *
             generalize (stAt C.sts (j:Int)).par=Px at *
             cases hold:histB Kx with
             | true =>
              by_cases hx1:Kx=1
              · have hx1b:(Kx == 1)=true:=by simpa using hx1
                clear hx1
                go_wp2_with fail
                go_quiet (fail)
                go_wp2_with fail
                go_ret
                exact .no rfl (below_drewN (below_boxed HB6.out) _) (HNO.out (fun h=>by have h1:=(HIFF.out.1 h).1; rw [hold] at h1; cases h1))
              · have hx1b:(Kx == 1)=false:=by simpa using hx1
                by_cases hx4:Kx=4
                · have hx4b:(Kx == 4)=true:=by simpa using hx4
                  clear hx1 hx4
                  go_wp2_with fail
                  go_quiet (fail)
                  go_wp2_with fail
                  go_ret
                  exact .no rfl (below_drewN (below_boxed HB6.out) _) (HNO.out (fun h=>by have h1:=(HIFF.out.1 h).1; rw [hold] at h1; cases h1))
                · have hx4b:(Kx == 4)=false:=by simpa using hx4
                  clear hx1 hx4
                  go_wp2_with fail
                  go_quiet (fail)
                  go_wp2_with fail
                  go_ret
                  exact .no rfl (below_drewN (below_boxed HB6.out) _) (HNO.out (fun h=>by have h1:=(HIFF.out.1 h).1; rw [hold] at h1; cases h1))
             | false =>
              have HNXT:Hid (OkX C.sts (k:Int) (M.getD m 0)→∀ i,i < m+1→OkX C.sts (k:Int) (M.getD i 0)):=Lib.hid (fun h i hi=>by
               by_cases him:i=m
               · rw [him]; exact h
               · exact HOK.out i (by omega))
              cases inb with
              | false =>
               by_cases hx1:Kx=1
               · have hx1b:(Kx == 1)=true:=by simpa using hx1
                 clear hx1
                 go_wp2_with fail
                 go_quiet (fail)
                 go_wp2_with fail
                 go_ret
                 exact .no rfl (below_drewN (below_boxed HB6.out) _) (HNO.out (fun h=>by have h1:=(HIFF.out.1 h).2.1; cases h1))
               · have hx1b:(Kx == 1)=false:=by simpa using hx1
                 by_cases hx4:Kx=4
                 · have hx4b:(Kx == 4)=true:=by simpa using hx4
                   clear hx1 hx4
                   go_wp2_with fail
                   go_quiet (fail)
                   go_wp2_with fail
                   go_ret
                   exact .no rfl (below_drewN (below_boxed HB6.out) _) (HNO.out (fun h=>by have h1:=(HIFF.out.1 h).2.1; cases h1))
                 · have hx4b:(Kx == 4)=false:=by simpa using hx4
                   clear hx1 hx4
                   go_wp2_with fail
                   go_quiet (fail)
                   go_wp2_with fail
                   go_ret
                   exact .no rfl (below_drewN (below_boxed HB6.out) _) (HNO.out (fun h=>by have h1:=(HIFF.out.1 h).2.1; cases h1))
              | true =>
               by_cases h5:Ks=5
               · have h5b:(Ks == 5)=true:=by simpa using h5
                 have h6b:(Ks == 6)=false:=by rw [h5]; rfl
                 by_cases hpp:Px=Ps
                 · have hppb:(Px != Ps)=false:=by simpa using hpp
                   have HNX:=Lib.hid (HNXT.out (HIFF.out.2 ⟨hold,rfl,fun _=>hpp,fun h6=>by omega⟩))
                   clear h5 hpp
                   by_cases hx1:Kx=1
                   · have hx1b:(Kx == 1)=true:=by simpa using hx1
                     clear hx1
                     go_wp2_with fail
                     go_quiet (fail)
                     go_wp2_with fail
                     go_roundw
                     case rel=>exact ⟨m+1,by omega,by go_num,HNX,Lib.hid (below_drewN HB6.out _),Lib.hid (HL6.out.below (below_drewN (Below.refl _ _) _))⟩
                     case measure=>simp [intOf]; omega
                   · have hx1b:(Kx == 1)=false:=by simpa using hx1
                     by_cases hx4:Kx=4
                     · have hx4b:(Kx == 4)=true:=by simpa using hx4
                       clear hx1 hx4
                       go_wp2_with fail
                       go_quiet (fail)
                       go_wp2_with fail
                       go_roundw
                       case rel=>exact ⟨m+1,by omega,by go_num,HNX,Lib.hid (below_drewN HB6.out _),Lib.hid (HL6.out.below (below_drewN (Below.refl _ _) _))⟩
                       case measure=>simp [intOf]; omega
                     · have hx4b:(Kx == 4)=false:=by simpa using hx4
                       clear hx1 hx4
                       go_wp2_with fail
                       go_quiet (fail)
                       go_wp2_with fail
                       go_roundw
                       case rel=>exact ⟨m+1,by omega,by go_num,HNX,Lib.hid (below_drewN HB6.out _),Lib.hid (HL6.out.below (below_drewN (Below.refl _ _) _))⟩
                       case measure=>simp [intOf]; omega
                 · have hppb:(Px != Ps)=true:=by simpa using hpp
                   have HNB:=Lib.hid (HNO.out (fun h=>hpp ((HIFF.out.1 h).2.2.1 h5)))
                   clear h5 hpp
                   by_cases hx1:Kx=1
                   · have hx1b:(Kx == 1)=true:=by simpa using hx1
                     clear hx1
                     go_wp2_with fail
                     go_quiet (fail)
                     go_wp2_with fail
                     go_ret
                     exact .no rfl (below_drewN (below_boxed HB6.out) _) HNB.out
                   · have hx1b:(Kx == 1)=false:=by simpa using hx1
                     by_cases hx4:Kx=4
                     · have hx4b:(Kx == 4)=true:=by simpa using hx4
                       clear hx1 hx4
                       go_wp2_with fail
                       go_quiet (fail)
                       go_wp2_with fail
                       go_ret
                       exact .no rfl (below_drewN (below_boxed HB6.out) _) HNB.out
                     · have hx4b:(Kx == 4)=false:=by simpa using hx4
                       clear hx1 hx4
                       go_wp2_with fail
                       go_quiet (fail)
                       go_wp2_with fail
                       go_ret
                       exact .no rfl (below_drewN (below_boxed HB6.out) _) HNB.out
               · have h5b:(Ks == 5)=false:=by simpa using h5
                 have h6b:(Ks == 6)=true:=by
                  have:=HKS.out
                  unfold histB at this
                  simp [h5] at this
                  simpa using this
                 have h6:Ks=6:=by simpa using h6b
                 by_cases hx1:Kx=1
                 · have hx1b:(Kx == 1)=true:=by simpa using hx1
                   have HNX:=Lib.hid (HNXT.out (HIFF.out.2 ⟨hold,rfl,fun h=>absurd h h5,fun _=>.inl hx1⟩))
                   clear h5 h6
                   clear hx1
                   go_wp2_with fail
                   go_quiet (fail)
                   go_wp2_with fail
                   go_roundw
                   case rel=>exact ⟨m+1,by omega,by go_num,HNX,Lib.hid (below_drewN HB6.out _),Lib.hid (HL6.out.below (below_drewN (Below.refl _ _) _))⟩
                   case measure=>simp [intOf]; omega
                 · have hx1b:(Kx == 1)=false:=by simpa using hx1
                   by_cases hx4:Kx=4
                   · have hx4b:(Kx == 4)=true:=by simpa using hx4
                     have HNX:=Lib.hid (HNXT.out (HIFF.out.2 ⟨hold,rfl,fun h=>absurd h h5,fun _=>.inr hx4⟩))
                     clear h5 h6
                     clear hx1 hx4
                     go_wp2_with fail
                     go_quiet (fail)
                     go_wp2_with fail
                     go_roundw
                     case rel=>exact ⟨m+1,by omega,by go_num,HNX,Lib.hid (below_drewN HB6.out _),Lib.hid (HL6.out.below (below_drewN (Below.refl _ _) _))⟩
                     case measure=>simp [intOf]; omega
                   · have hx4b:(Kx == 4)=false:=by simpa using hx4
                     have HNB:=Lib.hid (HNO.out (fun h=>((HIFF.out.1 h).2.2.2 h6).elim hx1 hx4))
                     clear h5 h6
                     clear hx1 hx4
                     go_wp2_with fail
                     go_quiet (fail)
                     go_wp2_with fail
                     go_ret
                     exact .no rfl (below_drewN (below_boxed HB6.out) _) HNB.out
          · obtain rfl:m=M.length:=by omega
            have HN2:=Lib.hid (HNEXT.out (HFIN.out HOK.out))
            go_wp2_with fail
            go_roundw
            case rel=>exact ⟨k+1,by omega,by go_num,HN2,HB⟩
            case measure=>simp [intOf]; omega
      · have hge:decide ((C.sts.length:Int)≤(k:Int))=true:=by simp; omega
        have HNB:Hid (¬ ∀ s,s < H.length→GoodF C.sts H s):=Lib.hid (fun h=>hkn (h k hlt (by rw [HHE.out]; exact HZ.out)).1)
        go_wp2_with fail
        go_ret
        exact .no rfl (below_boxed HB.out) HNB.out
  · obtain rfl:k=H.length:=by omega
    go_wp2_with fail
    go_ret
    exact .yes rfl (below_boxed HB.out) HGD.out
end Go.Proofs.YtgofpbdbeegoeaaGreatDoor
