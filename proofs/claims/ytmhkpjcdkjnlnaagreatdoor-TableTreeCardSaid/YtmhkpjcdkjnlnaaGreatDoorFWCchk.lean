/- The contract of chart.Check: whether a chart may be, or what is amiss first, and where. -/
import Derived.Test.YtmhkpjcdkjnlnaaGreatDoorFWCstf
import Derived.Test.YtmhkpjcdkjnlnaaGreatDoorFWCtrf
namespace Go.Proofs.YtmhkpjcdkjnlnaaGreatDoor
open Go.ChangeShapes Go.WideShapes Go.ChangeAt Go.RowKit
set_option linter.unusedVariables false

theorem sized_any (vs vt:Value) (C:Ch) (w:World) (hC:ChHas w vs vt C) (hl:Short C.sts.length) (hl2:Short C.trs.length) :
 Calls Tryz.prog 58 #[.agg #[.int .i64 C.vars,vs,vt]] w fun e w'=>e=.returned (.bool (sizedB C))∧Below w.heap.size w w':=by
 have HB:=Lib.hid (below_box w (chBox C.vars vs vt))
 unfold Short at hl hl2
 obtain ⟨A,cap,rfl,hcap⟩:=RowsAt.slice hC.1
 obtain ⟨A2,cap2,rfl,hcap2⟩:=RowsAt.slice hC.2
 clear hC
 have hR:sizedB C=sizedB C:=rfl
 conv at hR=>rhs; unfold sizedB
 generalize sizedB C=R at *
 have HR:=Lib.hid hR
 clear hR
 cases h1:fromB C.vars 0 8 with
 | false =>
  have H1:=Lib.hid h1
  clear h1
  go_enter Tryz.func58,Tryz.ntmps58
  go_wp2_with fail
  refine (isFrom_any _ _ _ _).mono ?_
  rintro e w' ⟨rfl,rfl⟩
  rw [H1.out]
  go_wp2_with fail
  go_ret
  exact ⟨ret_bool (by rw [HR.out,H1.out]; rfl),HB.out⟩
 | true =>
  have H1:=Lib.hid h1
  clear h1
  cases h2:fromB (C.sts.length:Int) 1 24 with
  | false =>
   have H2:=Lib.hid h2
   clear h2
   go_enter Tryz.func58,Tryz.ntmps58
   go_wp2_with fail
   refine (isFrom_any _ _ _ _).mono ?_
   rintro e w' ⟨rfl,rfl⟩
   rw [H1.out]
   go_wp2_with fail
   refine (isFrom_any _ _ _ _).mono ?_
   rintro e w' ⟨rfl,rfl⟩
   rw [H2.out]
   go_wp2_with fail
   go_ret
   exact ⟨ret_bool (by rw [HR.out,H1.out,H2.out]; rfl),HB.out⟩
  | true =>
   have H2:=Lib.hid h2
   clear h2
   by_cases h3:C.trs.length≤40
   · have h31:decide ((C.trs.length:Int)≤40)=true:=by simp; omega
     have h32:decide (C.trs.length≤40)=true:=by simpa using h3
     have HR2:Hid (R=true):=Lib.hid (by rw [HR.out,H1.out,H2.out,h32]; rfl)
     clear h3
     go_enter Tryz.func58,Tryz.ntmps58
     go_wp2_with fail
     refine (isFrom_any _ _ _ _).mono ?_
     rintro e w' ⟨rfl,rfl⟩
     rw [H1.out]
     go_wp2_with fail
     refine (isFrom_any _ _ _ _).mono ?_
     rintro e w' ⟨rfl,rfl⟩
     rw [H2.out]
     go_wp2_with fail
     go_ret
     exact ⟨ret_bool HR2.out.symm,HB.out⟩
   · have h31:decide ((C.trs.length:Int)≤40)=false:=by simp; omega
     have h32:decide (C.trs.length≤40)=false:=by simpa using h3
     have HR2:Hid (R=false):=Lib.hid (by rw [HR.out,H1.out,H2.out,h32]; rfl)
     clear h3
     go_enter Tryz.func58,Tryz.ntmps58
     go_wp2_with fail
     refine (isFrom_any _ _ _ _).mono ?_
     rintro e w' ⟨rfl,rfl⟩
     rw [H1.out]
     go_wp2_with fail
     refine (isFrom_any _ _ _ _).mono ?_
     rintro e w' ⟨rfl,rfl⟩
     rw [H2.out]
     go_wp2_with fail
     go_ret
     exact ⟨ret_bool HR2.out.symm,HB.out⟩
def CPost (a:CA) (w:World) (e:Ending) (w':World):Prop :=
 Below w.heap.size w w'∧match a with
  | .ok=>e=.returned .nilIface
  | .large=>e=.returned (.iface 82 (.int .i64 3))
  | .spot k c=>∃ g,e=.returned (.iface 106 (.pointer (some ⟨g,0,none⟩)))∧w.heap.size≤g∧Blk w' g 108 #[.int .i64 k,.int .i64 c]
theorem few_parts {C:Ch} (h:fewB C=true):C.sts.length≤40∧C.trs.length≤60∧(∀ k,k < C.sts.length→fewStB (C.sts.getD k noSt)=true)∧(∀ k,k < C.trs.length→fewTrB (C.trs.getD k noTr)=true):=by
 unfold fewB at h
 simp only [Bool.and_eq_true,decide_eq_true_eq] at h
 exact ⟨h.1.1.1,h.1.1.2,of_allU h.1.2,of_allU h.2⟩
theorem fewActs_parts {l:List Ac} (h:fewActsB l=true):l.length≤20∧ShortActs l:=by
 unfold fewActsB at h
 simp only [Bool.and_eq_true,decide_eq_true_eq] at h
 refine ⟨h.2,fun i hi=>?_⟩
 have:=of_allU h.1 i hi
 simp only [decide_eq_true_eq] at this
 omega
theorem short_of {n k:Nat} (h:n≤k) (hk:k≤1000):Short n:=by unfold Short; omega
theorem chk_large {T:ByteArray→Int→Int→Bool} {C:Ch} (h:sizedB C=false):chk T C=.large:=by unfold chk; rw [if_pos h]
theorem chk_st {T:ByteArray→Int→Int→Bool} {C:Ch} (h:sizedB C=true) (s:Nat) (hs:s < C.sts.length) (hb:∀ j,j < s→stF T C.sts C.vars (j:Int)=0) (hf:stF T C.sts C.vars (s:Int) ≠ 0):chk T C=.spot s (stF T C.sts C.vars (s:Int)):=by
 unfold chk
 rw [if_neg (by rw [h]; simp),badU_some (f:=fun s:Nat=>stF T C.sts C.vars (s:Int)) s hs hf hb]
theorem chk_tr {T:ByteArray→Int→Int→Bool} {C:Ch} (h:sizedB C=true) (h1:∀ j,j < C.sts.length→stF T C.sts C.vars (j:Int)=0) (i:Nat) (hi:i < C.trs.length) (hb:∀ j,j < i→trF T C.sts C.vars (C.trs.getD j noTr)=0) (hf:trF T C.sts C.vars (C.trs.getD i noTr) ≠ 0) :
 chk T C=.spot (C.sts.length+i) (trF T C.sts C.vars (C.trs.getD i noTr)):=by
 unfold chk
 rw [if_neg (by rw [h]; simp),badU_none h1]
 simp only
 rw [badU_some (f:=fun i=>trF T C.sts C.vars (C.trs.getD i noTr)) i hi hf hb]
theorem upto_zero {k:Nat} {f:Nat→Int} (h:∀ j,j < k→f j=0) (hk:f k=0):∀ j,j < k+1→f j=0:=fun j hj=>by
 by_cases he:j=k
 · rw [he]; exact hk
 · exact h j (by omega)
set_option maxHeartbeats 4000000 in
set_option maxRecDepth 100000 in
theorem chk_any (vs vt:Value) (C:Ch) (w:World) (hL:Laid w) (hC:ChHas w vs vt C) (hF:fewB C=true):Calls Tryz.prog 29 #[.agg #[.int .i64 C.vars,vs,vt]] w (CPost (chk hasTB C) w):=by
 obtain ⟨f1,f2,f3,f4⟩:=few_parts hF
 have hl:C.sts.length≤1000:=by omega
 have H0:=Lib.hid (fun (W:World) (hb:Below w.heap.size w W)=>sized_any vs vt C W (hC.below hb) (short_of f1 (by omega)) (short_of f2 (by omega)))
 have HC:=Lib.hid hC
 have HST:=Lib.hid (fun (hv:-1000≤C.vars) (hv2:C.vars≤1000) (s:Nat) (hs:s < C.sts.length) (W:World) (hb:Below w.heap.size w W)=>by
  have h:=f3 s hs
  unfold fewStB at h
  simp only [Bool.and_eq_true,decide_eq_true_eq] at h
  obtain ⟨e1,e2⟩:=fewActs_parts h.1.1
  obtain ⟨x1,x2⟩:=fewActs_parts h.1.2
  exact stF_any s vs vt C W (hL.after hb) (hC.below hb) hl hs hv hv2 (short_of e1 (by omega)) e2 (short_of x1 (by omega)) x2)
 have HTR:=Lib.hid (fun (hv:-1000≤C.vars) (hv2:C.vars≤1000) (i:Nat) (hi:i < C.trs.length) (wt wa:Value) (W:World) (hb:Below w.heap.size w W) (ht:TrHas w wt wa (C.trs.getD i noTr))=>by
  have h:=f4 i hi
  unfold fewTrB at h
  simp only [Bool.and_eq_true,decide_eq_true_eq] at h
  obtain ⟨e1,e2⟩:=fewActs_parts h.1.1
  exact trF_any vs vt wt wa C (C.trs.getD i noTr) W (hL.after hb) (hC.below hb) hl hv hv2 (ht.below hb) ⟨short_of h.1.2 (by omega),short_of e1 (by omega)⟩ (by omega) e2)
 obtain ⟨A,cap,hvs,hcap⟩:=RowsAt.slice hC.1
 obtain ⟨A2,cap2,hvt,hcap2⟩:=RowsAt.slice hC.2
 subst hvs
 subst hvt
 have HF3:=Lib.hid f3
 clear hL hC f3 f4 hF
 cases hz:sizedB C with
 | false =>
  have HR:=Lib.hid (chk_large (T:=hasTB) hz)
  have HZ:=Lib.hid hz
  clear hz
  go_enter Tryz.func29,Tryz.ntmps29
  go_wp2_with fail
  refine (H0.out _ (below_box _ _)).mono ?_
  rintro e w1 ⟨rfl,hb1⟩
  have HB1:=Lib.hid (below_boxed hb1)
  rw [HZ.out]
  clear hb1
  go_wp2_with fail
  go_ret
  rw [HR.out]
  exact ⟨HB1.out,rfl⟩
 | true =>
  have hvz:-1000≤C.vars∧C.vars≤1000:=by
   unfold sizedB at hz
   simp only [Bool.and_eq_true] at hz
   have:=fromB_true.1 hz.1.1
   omega
  have HS2:=Lib.hid (HST.out hvz.1 hvz.2)
  have HT2:=Lib.hid (HTR.out hvz.1 hvz.2)
  have HRS:=Lib.hid (chk_st (T:=hasTB) hz)
  have HRT:=Lib.hid (chk_tr (T:=hasTB) hz)
  have HRO:=Lib.hid (chk_of (T:=hasTB) hz)
  have HZ:=Lib.hid hz
  clear hz HST HTR hvz
  generalize chk hasTB C=R at *
  go_enter Tryz.func29,Tryz.ntmps29
  go_wp2_with fail
  refine (H0.out _ (below_box _ _)).mono ?_
  rintro e w1 ⟨rfl,hb1⟩
  obtain ⟨x0,x1,x2⟩:=box_later hb1
  have HB1:=Lib.hid hb1
  rw [HZ.out]
  clear hb1
  go_wp2_with fail
  go_loopw [15] (fun i wr=>∃ k:Nat,k≤C.sts.length∧i=.int .i64 (k:Int)∧Hid (∀ j,j < k→stF hasTB C.sts C.vars (j:Int)=0)∧Below (w.alloc (chBox C.vars (.slice A C.sts.length cap) (.slice A2 C.trs.length cap2))).heap.size (w.alloc (chBox C.vars (.slice A C.sts.length cap) (.slice A2 C.trs.length cap2))) wr) (fun i _=>C.sts.length - (intOf i).toNat)
  case atStart=>exact ⟨0,Nat.zero_le _,rfl,Lib.hid (fun j hj=>by omega),HB1.out⟩
  case round =>
   obtain ⟨k,hk,rfl,HO,hb⟩:=hrel
   obtain ⟨wo,rfl⟩:∃ wo:World,wo=wr:=⟨_,rfl⟩
   clear x0 x1 x2
   obtain ⟨x0,x1,x2⟩:=box_later hb
   by_cases hlt:k < C.sts.length
   · have hcall:=HS2.out k hlt wo (below_boxed hb)
     have hspot:=HRS.out k hlt HO.out
     have hgood:=fun h=>upto_zero (f:=fun j:Nat=>stF hasTB C.sts C.vars (j:Int)) HO.out h
     generalize stF hasTB C.sts C.vars (k:Int)=F at *
     have HCALL:=Lib.hid hcall
     have HSPOT:=Lib.hid hspot
     have HGOOD:=Lib.hid hgood
     have HBW:=Lib.hid hb
     clear hcall hspot hgood hb
     by_cases hf:F=0
     · have hf2:(F != 0)=false:=by simp [hf]
       have HF:=Lib.hid hf
       clear hf
       go_wp2_with fail
       refine HCALL.out.mono ?_
       rintro e w2 ⟨rfl,hb2⟩
       have HB2:=Lib.hid (HBW.out.trans (hb2.mono HBW.out.size))
       clear hb2
       go_wp2
       go_roundw
       case rel=>exact ⟨k+1,by omega,by go_num,Lib.hid (HGOOD.out HF.out),HB2.out⟩
       case measure=>simp [intOf]; omega
     · have hf2:(F != 0)=true:=by simp [hf]
       have HF:=Lib.hid hf
       clear hf
       go_wp2_with fail
       refine HCALL.out.mono ?_
       rintro e w2 ⟨rfl,hb2⟩
       have HB2:=Lib.hid (HBW.out.trans (hb2.mono HBW.out.size))
       clear hb2
       go_wp2_with fail
       go_ret
       rw [HSPOT.out HF.out]
       exact ⟨(below_boxed HB2.out).alloc (below_boxed HB2.out).size _,w2.heap.size,rfl,(below_boxed HB2.out).size,Blk.new w2 108 _⟩
   · obtain rfl:k=C.sts.length:=by omega
     have HRO2:=Lib.hid (HRO.out HO.out)
     have HRT2:=Lib.hid (HRT.out HO.out)
     have HBW:=Lib.hid hb
     clear hb HO HRO HRT HRS HS2
     go_wp2_with fail
     go_loopw [32] (fun i wr=>∃ k:Nat,k≤C.trs.length∧i=.int .i64 (k:Int)∧Hid (∀ j,j < k→trF hasTB C.sts C.vars (C.trs.getD j noTr)=0)∧Below (w.alloc (chBox C.vars (.slice A C.sts.length cap) (.slice A2 C.trs.length cap2))).heap.size (w.alloc (chBox C.vars (.slice A C.sts.length cap) (.slice A2 C.trs.length cap2))) wr) (fun i _=>C.trs.length - (intOf i).toNat)
     case atStart=>exact ⟨0,Nat.zero_le _,rfl,Lib.hid (fun j hj=>by omega),HBW.out⟩
     case round =>
      obtain ⟨k,hk,rfl,HO,hb⟩:=hrel
      obtain ⟨wo2,rfl⟩:∃ wo2:World,wo2=wr:=⟨_,rfl⟩
      clear x0 x1 x2
      obtain ⟨x0,x1,x2⟩:=box_later hb
      by_cases hlt:k < C.trs.length
      · obtain ⟨b,o,cap',wt,wa,hsl,_,hbl,htc,hhas⟩:=HC.out.tr hlt
        injection hsl with e1 e2 e3
        subst e1
        obtain ⟨c0,c1,c2,c3,c4,c5⟩:=htc.below (below_boxed hb) hbl
        have hcall:=fun W hb=>HT2.out k hlt wt wa W hb hhas
        have hspot:=HRT2.out k hlt HO.out
        have hgood:=fun h=>upto_zero (f:=fun j:Nat=>trF hasTB C.sts C.vars (C.trs.getD j noTr)) HO.out h
        generalize C.trs.getD k noTr=t at *
        obtain ⟨tA,tcap,aA,acap,rfl,rfl⟩:=hhas.slices
        generalize trF hasTB C.sts C.vars t=F at *
        have HBT:=Lib.hid (hb.alloc hb.size (trBox t (.slice tA t.tgts.length tcap) (.slice aA t.acts.length acap)))
        have HCALL:=Lib.hid (hcall _ (below_boxed HBT.out))
        have HSPOT:=Lib.hid hspot
        have HGOOD:=Lib.hid hgood
        have hsz:w.heap.size < wo2.heap.size:=by have:=hb.size; simp at this; omega
        clear hcall hspot hgood hb e2 e3 hhas htc
        by_cases hf:F=0
        · have hf2:(F != 0)=false:=by simp [hf]
          have HF:=Lib.hid hf
          clear hf
          go_wp2_with fail
          refine HCALL.out.mono ?_
          rintro e w2 ⟨rfl,hb2⟩
          have HB2:=Lib.hid (HBT.out.trans (hb2.mono HBT.out.size))
          clear hb2
          go_wp2
          go_roundw
          case rel=>exact ⟨k+1,by omega,by go_num,Lib.hid (HGOOD.out HF.out),HB2.out⟩
          case measure=>simp [intOf]; omega
        · have hf2:(F != 0)=true:=by simp [hf]
          have HF:=Lib.hid hf
          clear hf
          go_wp2_with fail
          refine HCALL.out.mono ?_
          rintro e w2 ⟨rfl,hb2⟩
          have hB2:=HBT.out.trans (hb2.mono HBT.out.size)
          clear x0 x1 x2
          obtain ⟨x0,x1,x2⟩:=box_later hB2
          have HB2:=Lib.hid hB2
          clear hb2 hB2
          go_wp2_with fail
          go_ret
          rw [HSPOT.out HF.out]
          exact ⟨(below_boxed HB2.out).alloc (below_boxed HB2.out).size _,w2.heap.size,rfl,(below_boxed HB2.out).size,Blk.new w2 108 _⟩
      · obtain rfl:k=C.trs.length:=by omega
        have HRR:=Lib.hid (HRO2.out HO.out)
        have HBW2:=Lib.hid hb
        clear hb HO HRO2
        go_wp2_with fail
        go_ret
        rw [HRR.out]
        exact ⟨below_boxed HBW2.out,rfl⟩
end Go.Proofs.YtmhkpjcdkjnlnaaGreatDoor
