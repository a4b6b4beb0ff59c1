/- The walk of the law TableTree: true for any chart. -/
import Derived.Test.YtmhkpjcdkjnlnaaGreatDoorFWWup
import Derived.Test.YtmhkpjcdkjnlnaaGreatDoorFWIup
import Derived.Test.YtmhkpjcdkjnlnaaGreatDoorFWCarg
namespace Go.Proofs.YtmhkpjcdkjnlnaaGreatDoor
open Go.ChangeShapes Go.WideShapes Go.ChangeAt Go.RowKit
set_option linter.unusedVariables false

theorem def_sets {S:List St} (hT:Tame S) {s:Nat} (hs:s < S.length) (hh:histB (stAt S (s:Int)).kind=false) (top:Int) :
 bits .andNot .u32 ((bset (defT S (s:Int)) S.length:Nat):Int) ((bset (pSet S [] top [(s:Int)]).a S.length:Nat):Int)=0 ∧
 bits .and .u32 ((bset (pSet S [] top [(s:Int)]).a S.length:Nat):Int) (bits .or .u32 ((belowN S (s:Int):Nat):Int) ((2:Int) ^ s))=((bset (defT S (s:Int)) S.length:Nat):Int):=by
 have hlen:=hT.len
 have hi:=isSt_of hs
 obtain ⟨h1,h2⟩:=dSet_one hT hi hh top
 rw [set_same hT (good_nil hT)]
 constructor
 · rw [andNot_sets _ _ _ (by omega),(bset_zero _ _).2 ?_]
   · rfl
   · rw [List.any_eq_false]
     intro x _
     cases hd:defT S (s:Int) x with
     | false=>simp
     | true=>rw [h1 x hd]; simp
 · unfold belowN
   rw [or_add _ _ _ (by omega) hs,(bits_nat .u32 32 (by decide) wrap_u32 _ _ (bset_u32 _ (by omega)) (bset_u32 _ (by omega))).1,bset_and]
   congr 1
   refine bset_congr _ fun y hy=>?_
   by_cases hb:Sub S (y:Int) (s:Int)
   · rw [h2 y hb]
     cases hd:defT S (s:Int) y with
     | false=>rfl
     | true =>
      have hp:=defT_plain hT hi y hd
      rw [Bool.true_and]
      unfold addS belowP
      rcases hb with hb | hb
      · have:y=s:=by omega
        subst this
        simp
      · rw [hb,hp]; rfl
   · have hd:defT S (s:Int) y=false:=by
      cases hd:defT S (s:Int) y with
      | false=>rfl
      | true=>exact absurd (defT_sub hT hi hh y hd) hb
     rw [hd]
     have h3:addS (belowP S (s:Int)) (s:Int) y=false:=by
      cases h3:addS (belowP S (s:Int)) (s:Int) y with
      | false=>rfl
      | true =>
       exfalso
       unfold addS belowP at h3
       simp only [Bool.or_eq_true,Bool.and_eq_true,decide_eq_true_eq] at h3
       rcases h3 with h3 | h3
       · exact hb (.inr h3.1)
       · exact hb (.inl h3)
     rw [h3,Bool.and_false]
theorem def_hist {S:List St} {s:Nat} (hh:histB (stAt S (s:Int)).kind=true):((bset (defT S (s:Int)) S.length:Nat):Int)=0:=by unfold defT; rw [if_pos hh,bset_empty]; rfl
theorem pow_u32 {k:Nat} (hk:k≤31):(2:Int) ^ k % 4294967296=(2:Int) ^ k∧IntKind.u32.wrap ((2:Int) ^ k)=(2:Int) ^ k:=by
 have h1:(2:Nat) ^ k≤2 ^ 31:=Nat.pow_le_pow_right (by decide) hk
 have h2:((2:Int) ^ k)=((2 ^ k:Nat):Int):=by simp
 rw [show (2:Nat) ^ 31=2147483648 by decide] at h1
 rw [h2]
 generalize 2 ^ k=m at *
 exact ⟨by omega,wrap_u32 _ (by omega) (by have:(2:Int) ^ 32=4294967296:=rfl; omega)⟩
set_option maxHeartbeats 16000000 in
set_option maxRecDepth 100000 in
theorem wlaw_any (vs vt:Value) (C:Ch) (w:World) (hL:Laid w) (hC:ChHas w vs vt C) (hS:ShortCh C) :
 Calls Tryz.prog 5 #[.agg #[.int .i64 C.vars,vs,vt]] w fun e w'=>e=.returned (.bool true)∧Below w.heap.size w w':=by
 obtain ⟨sA,scap,tA,tcap,rfl,rfl⟩:=hC.slices
 have HL:=Lib.hid hL
 have HL0:=Lib.hid (hL.after (below_box w (chBox C.vars (.slice sA C.sts.length scap) (.slice tA C.trs.length tcap))))
 have HF:=Lib.hid (fun (W:World) (h:Below (w.alloc (chBox C.vars (.slice sA C.sts.length scap) (.slice tA C.trs.length tcap))).heap.size (w.alloc (chBox C.vars (.slice sA C.sts.length scap) (.slice tA C.trs.length tcap))) W)=>few_any C.vars (.slice sA C.sts.length scap) (.slice tA C.trs.length tcap) C W (hC.below (below_boxed h)) hS)
 have HC:=Lib.hid hC
 have HCW:=Lib.hid (fun (W:World) (hF:fewB C=true) (h:Below (w.alloc (chBox C.vars (.slice sA C.sts.length scap) (.slice tA C.trs.length tcap))).heap.size (w.alloc (chBox C.vars (.slice sA C.sts.length scap) (.slice tA C.trs.length tcap))) W)=>wnew_any (.slice sA C.sts.length scap) (.slice tA C.trs.length tcap) C W (hL.after (below_boxed h)) (hC.below (below_boxed h)) hF)
 have HCH:=Lib.hid (fun (W:World) (hF:fewB C=true) (h:Below (w.alloc (chBox C.vars (.slice sA C.sts.length scap) (.slice tA C.trs.length tcap))).heap.size (w.alloc (chBox C.vars (.slice sA C.sts.length scap) (.slice tA C.trs.length tcap))) W)=>new_any (.slice sA C.sts.length scap) (.slice tA C.trs.length tcap) C W (hL.after (below_boxed h)) (hC.below (below_boxed h)) hF)
 have hnn:=neq_nil_nil
 have hnc:=fun p W=>neq_code_any p W
 have hns:=fun p W=>neq_spot_any p W
 clear hL hC hS
 cases hf:fewB C with
 | false =>
  have HFF:=Lib.hid hf
  clear hf
  go_enter Tryz.func5,Tryz.ntmps5
  go_wp2_with fail
  refine (upW_any _ HL0.out).mono ?_
  rintro e w1 ⟨rfl,hb1⟩
  obtain ⟨x0,x1,x2⟩:=box_later hb1
  have HB1:=Lib.hid hb1
  clear hb1
  go_wp2_with fail
  refine (HF.out _ HB1.out).mono ?_
  rintro e w2 ⟨rfl,hb2⟩
  have hB2:=HB1.out.trans (hb2.mono HB1.out.size)
  clear x0 x1 x2
  have HB2:=Lib.hid hB2
  rw [HFF.out]
  clear hb2 hB2
  go_wp2_with fail
  go_ret
  exact ⟨rfl,below_boxed HB2.out⟩
 | true =>
  have HFF:=Lib.hid hf
  clear hf
  by_cases hok:chk hasTB C=.ok
  · have HOK:=Lib.hid hok
    have HTA:=Lib.hid (tame_of hok)
    have HRT:=Lib.hid (rooted_of hok)
    have hlen:=HTA.out.len
    clear hok
    go_enter Tryz.func5,Tryz.ntmps5
    go_wp2_with fail
    refine (upW_any _ HL0.out).mono ?_
    rintro e w1 ⟨rfl,hb1⟩
    obtain ⟨x0,x1,x2⟩:=box_later hb1
    have HB1:=Lib.hid hb1
    clear hb1
    go_wp2_with fail
    refine (HF.out _ HB1.out).mono ?_
    rintro e w2 ⟨rfl,hb2⟩
    have hB2:=HB1.out.trans (hb2.mono HB1.out.size)
    clear x0 x1 x2
    obtain ⟨x0,x1,x2⟩:=box_later hB2
    have HB2:=Lib.hid hB2
    rw [HFF.out]
    clear hb2 hB2
    go_wp2_with fail
    refine (HCW.out _ HFF.out HB2.out).mono ?_
    intro e w3 hp
    obtain ⟨hb3,p,rfl,-,hW3⟩:=wnpost_yes hp HOK.out
    have HB3:=Lib.hid (HB2.out.trans (hb3.mono HB2.out.size))
    have HW3:=Lib.hid hW3
    clear hb3 hp hW3 x0 x1 x2
    obtain ⟨x0,x1,x2⟩:=box_later HB3.out
    go_wp2_with fail
    refine (HCH.out _ HFF.out HB3.out).mono ?_
    intro e w4 hp
    obtain ⟨hb4,t,rfl,-,hT⟩:=npost_yes hp HOK.out
    have HB4:=Lib.hid (HB3.out.trans (hb4.mono HB3.out.size))
    have HW4:=Lib.hid (HW3.out.below hb4)
    have HT4:=Lib.hid hT
    have HC4:=Lib.hid (HC.out.below (below_boxed HB4.out))
    have hn1:=fun W=>nilB_no p W
    have hn2:=fun W=>nilT_no t W
    have HBOX:Hid (∀ W,Below w4.heap.size w4 W→W.cell? ⟨w.heap.size,0,none⟩=some (.int .i64 C.vars)∧W.cell? ⟨w.heap.size,1,none⟩=some (.slice sA C.sts.length scap)∧W.cell? ⟨w.heap.size,2,none⟩=some (.slice tA C.trs.length tcap)):=Lib.hid fun W hb=>box_later (HB4.out.trans (hb.mono HB4.out.size))
    clear hb4 hp hT x0 x1 x2 HF HCH HCW HB1 HB2 HW3 HB3
    obtain ⟨x0,x1,x2⟩:=HBOX.out _ (Below.refl _ _)
    go_wp2_with fail
    go_loopw [9] (fun i wr=>∃ s:Nat,s≤C.sts.length∧i=.int .i64 (s:Int)∧Hid (Below w4.heap.size w4 wr)) (fun i _=>C.sts.length - (intOf i).toNat)
    case atStart=>exact ⟨0,Nat.zero_le _,rfl,Lib.hid (Below.refl _ _)⟩
    case round =>
     clear x0 x1 x2
     obtain ⟨s,hs,rfl,HB⟩:=hrel
     obtain ⟨w5,rfl⟩:∃ w5:World,w5=wr:=⟨_,rfl⟩
     obtain ⟨x0,x1,x2⟩:=HBOX.out _ HB.out
     by_cases hlt:s < C.sts.length
     · have HI:=Lib.hid (isSt_of hlt)
       go_wp2_with fail
       refine (upsT_any t (s:Int) C _ (HT4.out.below HB.out) (by omega) HRT.out).mono ?_
       rintro e w6 ⟨hb6,v6,rfl,ho6⟩
       have HB6:=Lib.hid (HB.out.trans (hb6.mono HB.out.size))
       obtain ⟨uA,ucap,rfl,hucap,hue⟩:=list_of_own ho6
       have HE:=Lib.hid hue
       have HMEM:Hid (∀ x ∈ ups C.sts (s:Int),∃ j:Nat,x=(j:Int)∧j < C.sts.length):=Lib.hid fun x hx=>isSt_nat (up_state HTA.out hx).1
       have hul:=ups_short C.sts (s:Int)
       have HUL:Hid (inL (ups C.sts (s:Int))=inL (ups C.sts (s:Int))):=Lib.hid rfl
       clear hb6 ho6 hue x0 x1 x2
       obtain ⟨L,hLL⟩:∃ L,L=ups C.sts (s:Int):=⟨_,rfl⟩
       have HLL:=Lib.hid hLL
       rw [← hLL] at HE HMEM hul hucap ⊢
       clear hLL
       go_wp2_with fail
       go_loopw [11,12] (fun v i wr=>∃ k:Nat,k≤L.length∧i=.int .i64 (k:Int)∧v=.int .u32 ((bset (inL (L.take k)) C.sts.length:Nat):Int)∧wr=w6) (fun _ i _=>L.length - (intOf i).toNat)
       case atStart =>
        refine ⟨0,Nat.zero_le _,rfl,?_,rfl⟩
        have:bset (inL (L.take 0)) C.sts.length=0:=(bset_zero _ _).2 (by rw [List.any_eq_false]; intro x _; simp [inL])
        rw [this]
        rfl
       case round =>
        obtain ⟨k,hk,rfl,rfl,rfl⟩:=hrel
        by_cases hlt2:k < L.length
        · obtain ⟨b,o,rfl,hbl,hc⟩:=HE.out k _ (List.getElem?_eq_getElem hlt2)
          have c0:wr.cell? ⟨b,o+k,none⟩=some (.int .i64 L[k]):=by have:=hc; unfold IntAt at this; rwa [Nat.mul_one] at this
          obtain ⟨j,hj,hjl⟩:=HMEM.out L[k] (List.getElem_mem hlt2)
          have hor:=or_add (inL (L.take k)) C.sts.length j (by omega) hjl
          have hnext:=inL_next L hlt2
          rw [hj] at hnext c0
          rw [hnext] at hor
          have HOR:=Lib.hid hor
          have h0:decide ((j:Int) < 0)=false:=by simp
          have hmod:=(pow_u32 (k:=j) (by omega)).1
          generalize bset (inL (L.take k)) C.sts.length=B at *
          clear hc hnext hj
          go_wp2_with fail
          go_roundw
          case rel=>exact ⟨k+1,by omega,by go_num,by rw [← HOR.out],trivial⟩
          case measure=>simp [intOf]; omega
        · obtain rfl:k=L.length:=by omega
          have hfin:L.take L.length=L:=List.take_length
          rw [hfin]
          obtain ⟨w7,rfl⟩:∃ w7:World,w7=wr:=⟨_,rfl⟩
          obtain ⟨x0,x1,x2⟩:=HBOX.out _ HB6.out
          clear hfin HE HMEM hucap
          go_wp2_with fail
          refine (past_any C.vars _ _ C s _ (HC4.out.below HB6.out) (by omega) hlt).mono ?_
          rintro e w8 ⟨rfl,hb8⟩
          have HB8:=Lib.hid (HB6.out.trans (hb8.mono HB6.out.size))
          clear hb8 x0 x1 x2
          go_wp2_with fail
          have hbx:=below_box w8 (.cells #[.int .i64 (s:Int)] 3)
          have HB9:=Lib.hid (HB8.out.trans (hbx.mono HB8.out.size))
          have HL9:=Lib.hid (one_list w8.heap.size (Blk.new w8 3 #[.int .i64 (s:Int)]))
          generalize w8.alloc (.cells #[.int .i64 (s:Int)] 3)=w9 at *
          refine (join_any t _ [(s:Int)] C _ (HT4.out.below HB9.out) (by omega) HRT.out HL9.out (show (1:Nat)≤9223372036854775807 by decide)).mono ?_
          rintro e w10 ⟨rfl,rfl⟩
          clear hbx
          go_wp2_with fail
          have hbx:=below_box w9 (.cells #[.int .i64 (s:Int)] 3)
          have HB10:=Lib.hid (HB9.out.trans (hbx.mono HB9.out.size))
          have HL10:=Lib.hid (one_list w9.heap.size (Blk.new w9 3 #[.int .i64 (s:Int)]))
          generalize w9.alloc (.cells #[.int .i64 (s:Int)] 3)=w10 at *
          refine (enterSet_any t _ (.slice none 0 0) _ C [] [(s:Int)] _ (HT4.out.below HB10.out) HOK.out HFF.out (RowsAt.nil _) (by simp) HL10.out (by simp)).mono ?_
          rintro e w11 ⟨rfl,hb11⟩
          have HB11:=Lib.hid (HB10.out.trans (hb11.mono HB10.out.size))
          clear hb11 hbx HL9 HL10 HB8 HB9 HB10
          generalize jnT C.sts [(s:Int)]=top at *
          have HDS:=Lib.hid (fun hh=>def_sets HTA.out hlt hh top)
          have HDH:Hid (histB (stAt C.sts (s:Int)).kind=true→((bset (defT C.sts (s:Int)) C.sts.length:Nat):Int)=0):=Lib.hid fun hh=>def_hist hh
          generalize bset (pSet C.sts [] top [(s:Int)]).a C.sts.length=E at *
          have HUP:=Lib.hid (fun (W:World) (hb:Below w4.heap.size w4 W)=>wup_any (HW4.out.below hb) (by omega) s hlt)
          rw [← HLL.out] at HUP
          go_wp2_with fail
          refine (HUP.out _ HB11.out).mono ?_
          rintro e w12 ⟨rfl,hb12⟩
          have HB12:=Lib.hid (HB11.out.trans (hb12.mono HB11.out.size))
          clear hb12 HB11 HUP
          go_wp2_with fail
          refine (wbelow_any (HW4.out.below HB12.out) (by omega) s hlt).mono ?_
          rintro e w13 ⟨rfl,hb13⟩
          have HB13:=Lib.hid (HB12.out.trans (hb13.mono HB12.out.size))
          clear hb13 HB12
          go_wp2_with fail
          refine (below_any t (s:Int) C _ (HT4.out.below HB13.out) (by omega) HRT.out).mono ?_
          rintro e w14 ⟨rfl,rfl⟩
          go_wp2_with fail
          refine (wkids_any (HW4.out.below HB13.out) (by omega) s hlt).mono ?_
          rintro e w14 ⟨rfl,hb14⟩
          have HB14:=Lib.hid (HB13.out.trans (hb14.mono HB13.out.size))
          clear hb14 HB13
          go_wp2_with fail
          refine (tkids_any t (s:Int) C _ (HT4.out.below HB14.out) (by omega) HI.out).mono ?_
          rintro e w15 ⟨rfl,hb15⟩
          have HB15:=Lib.hid (HB14.out.trans (hb15.mono HB14.out.size))
          clear hb15 HB14
          have HDF:=Lib.hid (fun (W:World) (hb:Below w4.heap.size w4 W)=>wdef_any (HW4.out.below hb) (by omega) s hlt)
          have HBL:=Lib.hid (fun (W:World) (hb:Below w4.heap.size w4 W)=>wbelow_any (HW4.out.below hb) (by omega) s hlt)
          generalize bset (defT C.sts (s:Int)) C.sts.length=D at *
          generalize belowN C.sts (s:Int)=BL at *
          cases hh:histB (stAt C.sts (s:Int)).kind with
          | true =>
           have hd:=HDH.out hh
           rw [hd] at HDF
           clear hh hd HDS HDH HLL
           go_wp2_with fail
           refine anyD_start (fun W=>True) (fun i=>[].contains i) (by kernel_rfl) ?_
           try simp only [Act.put,sx]
           have HB16:=Lib.hid HB15.out.drew
           generalize w15.drew=w16 at *
           refine anyD_t 0 (.bool true) ?_
           try simp only [Act.put,sx]
           refine anyD_t 1 (.bool false) ?_
           try simp only [Act.put,sx]
           refine anyD_t 2 (.bool false) ?_
           try simp only [Act.put,sx]
           refine anyD_take (i:=3) (v:=undef) rfl (by kernel_rfl) (by kernel_rfl) (by kernel_rfl) (fun _ _ _ h=>h) (Or.inr ⟨by kernel_rfl,rfl⟩) ?_
           try simp only [Act.put,sx]
           refine anyD_take (i:=4) (v:=undef) rfl (by kernel_rfl) (by kernel_rfl) (by kernel_rfl) (fun _ _ _ h=>h) (Or.inr ⟨by kernel_rfl,rfl⟩) ?_
           try simp only [Act.put,sx]
           refine anyD_take (i:=5) (v:=undef) rfl (by kernel_rfl) (by kernel_rfl) (by kernel_rfl) (fun _ _ _ h=>h) (Or.inr ⟨by kernel_rfl,rfl⟩) ?_
           try simp only [Act.put,sx]
           refine anyD_take (i:=6) (v:=undef) rfl (by kernel_rfl) (by kernel_rfl) (by kernel_rfl) (fun _ _ _ h=>h) (Or.inr ⟨by kernel_rfl,rfl⟩) ?_
           try simp only [Act.put,sx]
           refine anyD_take (i:=7) (v:=undef) rfl (by kernel_rfl) (by kernel_rfl) (by kernel_rfl) (fun _ _ _ h=>h) (Or.inr ⟨by kernel_rfl,rfl⟩) ?_
           try simp only [Act.put,sx]
           refine anyD_take (i:=8) (v:=undef) rfl (by kernel_rfl) (by kernel_rfl) (by kernel_rfl) (fun _ _ _ h=>h) (Or.inr ⟨by kernel_rfl,rfl⟩) ?_
           try simp only [Act.put,sx]
           refine anyD_t 9 (.bool false) ?_
           try simp only [Act.put,sx]
           refine anyD_t 10 (.bool false) ?_
           try simp only [Act.put,sx]
           refine anyD_t 11 (.bool true) ?_
           try simp only [Act.put,sx]
           refine anyD_t 12 (.bool true) ?_
           try simp only [Act.put,sx]
           refine anyD_t 13 (.pointer (some ⟨p,0,none⟩)) ?_
           try simp only [Act.put,sx]
           refine anyD_t 14 (.int .i64 (s:Int)) ?_
           try simp only [Act.put,sx]
           refine anyD_only (i:=15) rfl (by kernel_rfl) (by kernel_rfl) (fun K HK=>?_)
           go_simp
           refine (HDF.out _ HB16.out).mono ?_
           rintro e w17 ⟨rfl,hb17⟩
           have HB17:=Lib.hid (HB16.out.trans (hb17.mono HB16.out.size))
           clear hb17 HB16
           go_simp
           refine HK.out _ _ (fun _ hS=>trivial) ?_
           clear HK K
           try simp only [Act.put,sx]
           refine anyD_t 16 (.bool false) ?_
           try simp only [Act.put,sx]
           refine anyD_t 17 (.bool false) ?_
           try simp only [Act.put,sx]
           refine anyD_t 18 (.bool false) ?_
           try simp only [Act.put,sx]
           refine anyD_t 19 (.bool false) ?_
           try simp only [Act.put,sx]
           refine anyD_t 20 (.bool true) ?_
           try simp only [Act.put,sx]
           refine anyD_t 21 (.bool false) ?_
           try simp only [Act.put,sx]
           refine anyD_t 22 (.bool false) ?_
           try simp only [Act.put,sx]
           refine anyD_take (i:=23) (v:=undef) rfl (by kernel_rfl) (by kernel_rfl) (by kernel_rfl) (fun _ _ _ h=>h) (Or.inr ⟨by kernel_rfl,rfl⟩) ?_
           try simp only [Act.put,sx]
           refine anyD_take (i:=24) (v:=undef) rfl (by kernel_rfl) (by kernel_rfl) (by kernel_rfl) (fun _ _ _ h=>h) (Or.inr ⟨by kernel_rfl,rfl⟩) ?_
           try simp only [Act.put,sx]
           refine anyD_take (i:=25) (v:=undef) rfl (by kernel_rfl) (by kernel_rfl) (by kernel_rfl) (fun _ _ _ h=>h) (Or.inr ⟨by kernel_rfl,rfl⟩) ?_
           try simp only [Act.put,sx]
           refine anyD_take (i:=26) (v:=undef) rfl (by kernel_rfl) (by kernel_rfl) (by kernel_rfl) (fun _ _ _ h=>h) (Or.inr ⟨by kernel_rfl,rfl⟩) ?_
           try simp only [Act.put,sx]
           refine anyD_take (i:=27) (v:=undef) rfl (by kernel_rfl) (by kernel_rfl) (by kernel_rfl) (fun _ _ _ h=>h) (Or.inr ⟨by kernel_rfl,rfl⟩) ?_
           try simp only [Act.put,sx]
           refine anyD_take (i:=28) (v:=undef) rfl (by kernel_rfl) (by kernel_rfl) (by kernel_rfl) (fun _ _ _ h=>h) (Or.inr ⟨by kernel_rfl,rfl⟩) ?_
           try simp only [Act.put,sx]
           refine anyD_take (i:=29) (v:=undef) rfl (by kernel_rfl) (by kernel_rfl) (by kernel_rfl) (fun _ _ _ h=>h) (Or.inr ⟨by kernel_rfl,rfl⟩) ?_
           try simp only [Act.put,sx]
           refine anyD_take (i:=30) (v:=undef) rfl (by kernel_rfl) (by kernel_rfl) (by kernel_rfl) (fun _ _ _ h=>h) (Or.inr ⟨by kernel_rfl,rfl⟩) ?_
           try simp only [Act.put,sx]
           refine anyD_take (i:=31) (v:=undef) rfl (by kernel_rfl) (by kernel_rfl) (by kernel_rfl) (fun _ _ _ h=>h) (Or.inr ⟨by kernel_rfl,rfl⟩) ?_
           try simp only [Act.put,sx]
           refine anyD_take (i:=32) (v:=undef) rfl (by kernel_rfl) (by kernel_rfl) (by kernel_rfl) (fun _ _ _ h=>h) (Or.inr ⟨by kernel_rfl,rfl⟩) ?_
           try simp only [Act.put,sx]
           refine anyD_take (i:=33) (v:=undef) rfl (by kernel_rfl) (by kernel_rfl) (by kernel_rfl) (fun _ _ _ h=>h) (Or.inr ⟨by kernel_rfl,rfl⟩) ?_
           try simp only [Act.put,sx]
           refine anyD_take (i:=34) (v:=undef) rfl (by kernel_rfl) (by kernel_rfl) (by kernel_rfl) (fun _ _ _ h=>h) (Or.inr ⟨by kernel_rfl,rfl⟩) ?_
           try simp only [Act.put,sx]
           refine anyD_t 35 (.bool false) ?_
           try simp only [Act.put,sx]
           refine anyD_t 36 (.bool false) ?_
           try simp only [Act.put,sx]
           refine anyD_take (i:=37) (v:=undef) rfl (by kernel_rfl) (by kernel_rfl) (by kernel_rfl) (fun _ _ _ h=>h) (Or.inr ⟨by kernel_rfl,rfl⟩) ?_
           try simp only [Act.put,sx]
           refine anyD_take (i:=38) (v:=undef) rfl (by kernel_rfl) (by kernel_rfl) (by kernel_rfl) (fun _ _ _ h=>h) (Or.inr ⟨by kernel_rfl,rfl⟩) ?_
           try simp only [Act.put,sx]
           refine anyD_t 39 (.bool false) ?_
           try simp only [Act.put,sx]
           refine anyD_t 40 (.bool false) ?_
           try simp only [Act.put,sx]
           refine anyD_done (by kernel_rfl) ?_
           go_wp2_with fail
           go_roundw
           case rel=>exact ⟨s+1,by omega,by go_num,HB17⟩
           case measure=>simp [intOf]; omega
          | false =>
           obtain ⟨hd1,hd2⟩:=HDS.out hh
           have HD1:=Lib.hid hd1
           have HD2:=Lib.hid hd2
           clear hh hd1 hd2 HDS HDH HLL
           go_wp2_with fail
           refine anyD_start (fun W=>True) (fun i=>[].contains i) (by kernel_rfl) ?_
           try simp only [Act.put,sx]
           have HB16:=Lib.hid HB15.out.drew
           generalize w15.drew=w16 at *
           refine anyD_t 0 (.bool false) ?_
           try simp only [Act.put,sx]
           refine anyD_t 1 (.bool true) ?_
           try simp only [Act.put,sx]
           refine anyD_t 2 (.bool true) ?_
           try simp only [Act.put,sx]
           refine anyD_t 3 (.pointer (some ⟨p,0,none⟩)) ?_
           try simp only [Act.put,sx]
           refine anyD_t 4 (.int .i64 (s:Int)) ?_
           try simp only [Act.put,sx]
           refine anyD_t 6 (.int .u32 (E:Int)) ?_
           try simp only [Act.put,sx]
           refine anyD_only (i:=5) rfl (by kernel_rfl) (by kernel_rfl) (fun K HK=>?_)
           go_simp
           refine (HDF.out _ HB16.out).mono ?_
           rintro e w17 ⟨rfl,hb17⟩
           have HB17:=Lib.hid (HB16.out.trans (hb17.mono HB16.out.size))
           clear hb17 HB16
           go_simp
           refine HK.out _ _ (fun _ hS=>trivial) ?_
           clear HK K
           try simp only [Act.put,sx]
           have hd1:=HD1.out
           refine anyD_t 7 (.int .u32 0) ?_
           try simp only [Act.put,sx]
           clear hd1
           refine anyD_t 8 (.bool false) ?_
           try simp only [Act.put,sx]
           refine anyD_t 9 (.bool false) ?_
           try simp only [Act.put,sx]
           refine anyD_t 10 (.bool false) ?_
           try simp only [Act.put,sx]
           refine anyD_t 11 (.bool false) ?_
           try simp only [Act.put,sx]
           refine anyD_t 12 (.bool false) ?_
           try simp only [Act.put,sx]
           refine anyD_take (i:=13) (v:=undef) rfl (by kernel_rfl) (by kernel_rfl) (by kernel_rfl) (fun _ _ _ h=>h) (Or.inr ⟨by kernel_rfl,rfl⟩) ?_
           try simp only [Act.put,sx]
           refine anyD_take (i:=14) (v:=undef) rfl (by kernel_rfl) (by kernel_rfl) (by kernel_rfl) (fun _ _ _ h=>h) (Or.inr ⟨by kernel_rfl,rfl⟩) ?_
           try simp only [Act.put,sx]
           refine anyD_take (i:=15) (v:=undef) rfl (by kernel_rfl) (by kernel_rfl) (by kernel_rfl) (fun _ _ _ h=>h) (Or.inr ⟨by kernel_rfl,rfl⟩) ?_
           try simp only [Act.put,sx]
           refine anyD_take (i:=16) (v:=undef) rfl (by kernel_rfl) (by kernel_rfl) (by kernel_rfl) (fun _ _ _ h=>h) (Or.inr ⟨by kernel_rfl,rfl⟩) ?_
           try simp only [Act.put,sx]
           refine anyD_t 17 (.bool false) ?_
           try simp only [Act.put,sx]
           refine anyD_t 18 (.bool false) ?_
           try simp only [Act.put,sx]
           refine anyD_t 19 (.bool false) ?_
           try simp only [Act.put,sx]
           refine anyD_t 20 (.bool false) ?_
           try simp only [Act.put,sx]
           refine anyD_t 21 (.bool true) ?_
           try simp only [Act.put,sx]
           refine anyD_t 22 (.bool true) ?_
           try simp only [Act.put,sx]
           refine anyD_t 23 (.pointer (some ⟨p,0,none⟩)) ?_
           try simp only [Act.put,sx]
           refine anyD_t 24 (.int .i64 (s:Int)) ?_
           try simp only [Act.put,sx]
           refine anyD_t 26 (.int .u32 (E:Int)) ?_
           try simp only [Act.put,sx]
           refine anyD_t 27 (.pointer (some ⟨p,0,none⟩)) ?_
           try simp only [Act.put,sx]
           refine anyD_t 28 (.int .i64 (s:Int)) ?_
           try simp only [Act.put,sx]
           refine anyD_t 30 (.int .i64 (s:Int)) ?_
           try simp only [Act.put,sx]
           have h0:decide ((s:Int) < 0)=false:=by simp
           have hmod:=(pow_u32 (k:=s) (by omega)).2
           refine anyD_t 31 (.int .u32 ((2:Int) ^ s)) ?_
           try simp only [Act.put,sx]
           clear h0 hmod
           refine anyD_only (i:=25) rfl (by kernel_rfl) (by kernel_rfl) (fun K HK=>?_)
           go_simp
           refine (HDF.out _ HB17.out).mono ?_
           rintro e w18 ⟨rfl,hb18⟩
           have HB18:=Lib.hid (HB17.out.trans (hb18.mono HB17.out.size))
           clear hb18 HB17
           go_simp
           refine HK.out _ _ (fun _ hS=>trivial) ?_
           clear HK K
           try simp only [Act.put,sx]
           refine anyD_only (i:=29) rfl (by kernel_rfl) (by kernel_rfl) (fun K HK=>?_)
           go_simp
           refine (HBL.out _ HB18.out).mono ?_
           rintro e w19 ⟨rfl,hb19⟩
           have HB19:=Lib.hid (HB18.out.trans (hb19.mono HB18.out.size))
           clear hb19 HB18
           go_simp
           refine HK.out _ _ (fun _ hS=>trivial) ?_
           clear HK K
           try simp only [Act.put,sx]
           have hd2:=HD2.out
           refine anyD_t 32 (.int .u32 (bits .or .u32 (BL:Int) ((2:Int) ^ s))) ?_
           try simp only [Act.put,sx]
           refine anyD_t 33 (.int .u32 (D:Int)) ?_
           try simp only [Act.put,sx]
           clear hd2
           refine anyD_t 34 (.bool false) ?_
           try simp only [Act.put,sx]
           refine anyD_t 35 (.bool false) ?_
           try simp only [Act.put,sx]
           refine anyD_t 36 (.bool false) ?_
           try simp only [Act.put,sx]
           refine anyD_take (i:=37) (v:=undef) rfl (by kernel_rfl) (by kernel_rfl) (by kernel_rfl) (fun _ _ _ h=>h) (Or.inr ⟨by kernel_rfl,rfl⟩) ?_
           try simp only [Act.put,sx]
           refine anyD_take (i:=38) (v:=undef) rfl (by kernel_rfl) (by kernel_rfl) (by kernel_rfl) (fun _ _ _ h=>h) (Or.inr ⟨by kernel_rfl,rfl⟩) ?_
           try simp only [Act.put,sx]
           refine anyD_t 39 (.bool false) ?_
           try simp only [Act.put,sx]
           refine anyD_t 40 (.bool false) ?_
           try simp only [Act.put,sx]
           refine anyD_done (by kernel_rfl) ?_
           go_wp2_with fail
           go_roundw
           case rel=>exact ⟨s+1,by omega,by go_num,HB19⟩
           case measure=>simp [intOf]; omega
     · obtain rfl:s=C.sts.length:=by omega
       go_wp2_with fail
       go_ret
       exact ⟨rfl,below_boxed (HB4.out.trans (HB.out.mono HB4.out.size))⟩
  · have HOK:=Lib.hid hok
    clear hok
    go_enter Tryz.func5,Tryz.ntmps5
    go_wp2_with fail
    refine (upW_any _ HL0.out).mono ?_
    rintro e w1 ⟨rfl,hb1⟩
    obtain ⟨x0,x1,x2⟩:=box_later hb1
    have HB1:=Lib.hid hb1
    clear hb1
    go_wp2_with fail
    refine (HF.out _ HB1.out).mono ?_
    rintro e w2 ⟨rfl,hb2⟩
    have hB2:=HB1.out.trans (hb2.mono HB1.out.size)
    clear x0 x1 x2
    obtain ⟨x0,x1,x2⟩:=box_later hB2
    have HB2:=Lib.hid hB2
    rw [HFF.out]
    clear hb2 hB2
    go_wp2_with fail
    refine (HCW.out _ HFF.out HB2.out).mono ?_
    intro e w3 hp
    obtain ⟨hb3,hv⟩:=wnpost_no hp HOK.out
    have HB3:=Lib.hid (HB2.out.trans (hb3.mono HB2.out.size))
    clear hb3 hp x0 x1 x2
    obtain ⟨x0,x1,x2⟩:=box_later HB3.out
    rcases hv with ⟨q,rfl⟩ | ⟨q,rfl⟩
    all_goals
     go_wp2_with fail
     refine (HCH.out _ HFF.out HB3.out).mono ?_
     intro e w4 hp
     obtain ⟨hb4,hv4⟩:=npost_no hp HOK.out
     have HB4:=Lib.hid (HB3.out.trans (hb4.mono HB3.out.size))
     clear hb4 hp x0 x1 x2
     rcases hv4 with ⟨r,rfl⟩ | ⟨r,rfl⟩
     · go_wp2_with fail
       go_ret
       exact ⟨rfl,below_boxed HB4.out⟩
     · go_wp2_with fail
       go_ret
       exact ⟨rfl,below_boxed HB4.out⟩
end Go.Proofs.YtmhkpjcdkjnlnaaGreatDoor
