/- The contracts of chart's sourceMayBe, eventMayBe, targetsMayBe. -/
import Derived.Test.YtmhkpjcdkjnlnaaGreatDoorFWCs
import Derived.Deep.RegionHeld3
import Derived.Test.YtmhkpjcdkjnlnaaGreatDoorFWCact
import Derived.Test.YtmhkpjcdkjnlnaaGreatDoorFWCarg
namespace Go.Proofs.YtmhkpjcdkjnlnaaGreatDoor
open Go.ChangeShapes Go.WideShapes Go.ChangeAt Go.RowKit
set_option linter.unusedVariables false

theorem isSt_of_notFirst {S:List St} {s:Int} (h:notFirst S s=true):isSt S s=true:=by
 unfold notFirst at h
 rw [Bool.and_eq_true] at h
 exact h.2
set_option maxHeartbeats 1000000 in
theorem src_any (vr s:Int) (vs vt:Value) (C:Ch) (w:World) (hC:ChHas w vs vt C) (hl:Short C.sts.length) :
 Calls Tryz.prog 100 #[.agg #[.int .i64 vr,vs,vt],.int .i64 s] w fun e w'=>e=.returned (.bool (srcB C.sts s))∧Below w.heap.size w w':=by
 have HB:=Lib.hid (below_box w (chBox vr vs vt))
 have HS:=Lib.hid (notFirst_any vr s vs vt C _ (hC.below HB.out) hl)
 have HC:=Lib.hid hC
 unfold Short at hl
 cases h:notFirst C.sts s with
 | false =>
  have HI:=Lib.hid h
  clear h hC
  go_enter Tryz.func100,Tryz.ntmps100
  go_wp2_with fail
  refine HS.out.mono ?_
  rintro e w1 ⟨rfl,hb1⟩
  have HB1:=Lib.hid (below_boxed hb1)
  rw [HI.out]
  clear hb1
  go_wp2_with fail
  go_ret
  exact ⟨ret_bool (by unfold srcB; rw [HI.out]; rfl),HB1.out⟩
 | true =>
  have HI:=Lib.hid h
  obtain ⟨k,rfl,hk⟩:=isSt_nat (isSt_of_notFirst h)
  obtain ⟨b,o,cap,vi,ve,vx,rfl,hcap,hlt,hst,_⟩:=hC.st hk
  have HST:=Lib.hid hst
  clear h hC hst
  go_enter Tryz.func100,Tryz.ntmps100
  go_wp2_with fail
  refine HS.out.mono ?_
  rintro e w1 ⟨rfl,hb1⟩
  have HB1:=Lib.hid (below_boxed hb1)
  obtain ⟨x0,x1,x2⟩:=box_later hb1
  obtain ⟨c0,c1,c2,c3,c4⟩:=HST.out.below HB1.out hlt
  rw [HI.out]
  clear hb1
  go_wp2_with fail
  refine (isFrom_any _ _ _ _).mono ?_
  rintro e w' ⟨rfl,rfl⟩
  go_wp2_with fail
  go_ret
  exact ⟨ret_bool (by unfold srcB; rw [HI.out]; rfl),HB1.out⟩
set_option maxHeartbeats 1000000 in
theorem ev_any (vr e:Int) (vs vt:Value) (C:Ch) (w:World) (hC:ChHas w vs vt C) (hl:C.sts.length≤1000) :
 Calls Tryz.prog 101 #[.agg #[.int .i64 vr,vs,vt],.int .i64 e] w fun r w'=>r=.returned (.bool (evB C.sts e))∧Below w.heap.size w w':=by
 have HB:=Lib.hid (below_box w (chBox vr vs vt))
 obtain ⟨A,cap,rfl,hcap⟩:=RowsAt.slice hC.1
 clear hC
 have hR:evB C.sts e=evB C.sts e:=rfl
 conv at hR=>rhs; unfold evB
 generalize evB C.sts e=R at *
 have HR:=Lib.hid hR
 clear hR
 cases h1:fromB e 0 1000 with
 | true =>
  have H1:=Lib.hid h1
  clear h1
  go_enter Tryz.func101,Tryz.ntmps101
  go_wp2_with fail
  refine (isFrom_any _ _ _ _).mono ?_
  rintro e w' ⟨rfl,rfl⟩
  rw [H1.out]
  go_wp2_with fail
  go_ret
  exact ⟨ret_bool (by rw [HR.out,H1.out]; simp),HB.out⟩
 | false =>
  have H1:=Lib.hid h1
  clear h1
  by_cases h2:e=1001
  · have h22:(e == 1001)=true:=by simpa using h2
    have H2:=Lib.hid h2
    clear h2
    go_enter Tryz.func101,Tryz.ntmps101
    go_wp2_with fail
    refine (isFrom_any _ _ _ _).mono ?_
    rintro e w' ⟨rfl,rfl⟩
    rw [H1.out]
    go_wp2_with fail
    go_ret
    exact ⟨ret_bool (by rw [HR.out]; simp [H2.out]),HB.out⟩
  · have h22:(e == 1001)=false:=by simpa using h2
    have H2:=Lib.hid h2
    clear h2
    by_cases h3:e=1002
    · have h33:(e == 1002)=true:=by simpa using h3
      have H3:=Lib.hid h3
      clear h3
      go_enter Tryz.func101,Tryz.ntmps101
      go_wp2_with fail
      refine (isFrom_any _ _ _ _).mono ?_
      rintro e w' ⟨rfl,rfl⟩
      rw [H1.out]
      go_wp2_with fail
      go_ret
      exact ⟨ret_bool (by rw [HR.out]; simp [H3.out]),HB.out⟩
    · have h33:(e == 1002)=false:=by simpa using h3
      have H3:=Lib.hid h3
      clear h3
      go_enter Tryz.func101,Tryz.ntmps101
      go_wp2_with fail
      refine (isFrom_any _ _ _ _).mono ?_
      rintro e w' ⟨rfl,rfl⟩
      rw [H1.out]
      go_wp2_with fail
      refine (isFrom_any _ _ _ _).mono ?_
      rintro e w' ⟨rfl,rfl⟩
      go_wp2_with fail
      go_ret
      exact ⟨ret_bool (by rw [HR.out,H1.out]; simp [H2.out,H3.out]),HB.out⟩
theorem tgts_long {S:List St} {l:List Int} (h:3 < l.length):tgtsB S l=false:=by unfold tgtsB; rw [show decide (l.length≤3)=false by simp; omega]; rfl
theorem tgts_first {S:List St} {l:List Int} (i:Nat) (hi:i < l.length) (h:notFirst S (l.getD i 0)=false):tgtsB S l=false:=by unfold tgtsB; rw [allU_false i hi h]; simp
theorem tgts_pair {S:List St} {l:List Int} (i k:Nat) (hi:i < l.length) (hk:k < i) (h:apart S (cCnt S (l.getD i 0)) (cCnt S (l.getD k 0))=false):tgtsB S l=false:=by
 unfold tgtsB; rw [allU_false (f:=pairB S l) i hi (by unfold pairB; exact allU_false k hk h)]; simp
theorem tgts_all {S:List St} {l:List Int} (h3:l.length≤3) (h1:∀ i,i < l.length→notFirst S (l.getD i 0)=true) (h2:∀ i,i < l.length→pairB S l i=true):tgtsB S l=true:=by
 unfold tgtsB; rw [allU_true h1,allU_true h2]; simp [h3]
theorem sx_keep {g:Nat} {vr:Int} {vs vt:Value} {W0 w w':World} (hg:g < W0.heap.size)
 (h:w.cell? ⟨g,0,none⟩=some (.int .i64 vr)∧w.cell? ⟨g,1,none⟩=some vs∧w.cell? ⟨g,2,none⟩=some vt∧Below W0.heap.size W0 w) (hb:Below w.heap.size w w') :
 w'.cell? ⟨g,0,none⟩=some (.int .i64 vr)∧w'.cell? ⟨g,1,none⟩=some vs∧w'.cell? ⟨g,2,none⟩=some vt∧Below W0.heap.size W0 w':=by
 obtain ⟨h0,h1,h2,h3⟩:=h
 have hl:=Nat.lt_of_lt_of_le hg h3.size
 exact ⟨(hb.cell (p:=⟨g,0,none⟩) hl).trans h0,(hb.cell (p:=⟨g,1,none⟩) hl).trans h1,(hb.cell (p:=⟨g,2,none⟩) hl).trans h2,h3.trans (hb.mono h3.size)⟩
theorem upto_succ' {k:Nat} {f:Nat→Bool} (h:∀ j,j < k→f j=true) (hk:f k=true):∀ j,j < k+1→f j=true:=fun j hj=>by
 by_cases he:j=k
 · rw [he]; exact hk
 · exact h j (by omega)

theorem below_drew {B:Nat} {a w:World} (h:Below B a w):Below B a w.drew:=⟨h.os,h.tape,h.output,h.size,h.block⟩
set_option maxHeartbeats 4000000 in
set_option maxRecDepth 100000 in
theorem tgts_any (vr:Int) (vs vt vl:Value) (C:Ch) (l:List Int) (w:World) (hC:ChHas w vs vt C) (hl:C.sts.length≤1000) (hv:ListAt w vl l) (hll:Short l.length) :
 Calls Tryz.prog 102 #[.agg #[.int .i64 vr,vs,vt],vl] w fun e w'=>e=.returned (.bool (tgtsB C.sts l))∧Below w.heap.size w w':=by
 have HB:=Lib.hid (below_box w (chBox vr vs vt))
 have hsh:Short C.sts.length:=by unfold Short; omega
 have HN:=Lib.hid (fun (W:World) (s:Int) (h:Below (w.alloc (chBox vr vs vt)).heap.size (w.alloc (chBox vr vs vt)) W)=>notFirst_any vr s vs vt C W (hC.below (below_boxed h)) hsh)
 have HCN:=Lib.hid (fun (W:World) (s:Int) (hs:isSt C.sts s=true) (h:Below (w.alloc (chBox vr vs vt)).heap.size (w.alloc (chBox vr vs vt)) W)=>counted_any vr s vs vt C W (hC.below (below_boxed h)) hsh hs)
 have HAP:=Lib.hid (fun (W:World) (a b:Int) (h:Below (w.alloc (chBox vr vs vt)).heap.size (w.alloc (chBox vr vs vt)) W)=>apart_any vr a b vs vt C W (hC.below (below_boxed h)) hsh)
 obtain ⟨A,cap,rfl,hcap,hel⟩:=hv
 unfold Short at hll
 have HE:=Lib.hid hel
 clear hC hel
 by_cases h3:3 < l.length
 · have hd:decide ((3:Int) < (l.length:Int))=true:=by simp; omega
   have hd2:decide (3 < l.length)=true:=by simpa using h3
   have HR:=Lib.hid (tgts_long (S:=C.sts) h3)
   clear h3
   go_enter Tryz.func102,Tryz.ntmps102
   go_wp2_with fail
   go_ret
   exact ⟨ret_bool HR.out.symm,HB.out⟩
 · have hd:decide ((3:Int) < (l.length:Int))=false:=by simp; omega
   have hd2:decide (3 < l.length)=false:=by simpa using h3
   have HALL:=Lib.hid (tgts_all (S:=C.sts) (l:=l) (by omega))
   have HFI:=Lib.hid (fun i hi h=>tgts_first (S:=C.sts) (l:=l) i hi h)
   have HPA:=Lib.hid (fun i k hi hk h=>tgts_pair (S:=C.sts) (l:=l) i k hi hk h)
   generalize tgtsB C.sts l=R at *
   clear h3
   go_enter Tryz.func102,Tryz.ntmps102
   go_wp2_with fail
   go_loopw [16] (fun i wr=>∃ k:Nat,k≤l.length∧i=.int .i64 (k:Int)∧Hid (∀ j,j < k→notFirst C.sts (l.getD j 0)=true)∧Below (w.alloc (chBox vr vs vt)).heap.size (w.alloc (chBox vr vs vt)) wr) (fun i _=>l.length - (intOf i).toNat)
   case atStart=>exact ⟨0,Nat.zero_le _,rfl,Lib.hid (fun j hj=>by omega),Below.refl _ _⟩
   case round =>
    obtain ⟨k,hk,rfl,HO,hb⟩:=hrel
    obtain ⟨wo,rfl⟩:∃ wo:World,wo=wr:=⟨_,rfl⟩
    obtain ⟨x0,x1,x2⟩:=box_later hb
    by_cases hlt:k < l.length
    · obtain ⟨b,o,rfl,hbl,hc⟩:=HE.out k (l.getD k 0) (by simp [List.getD,List.getElem?_eq_getElem hlt])
      have c0:wo.cell? ⟨b,o+k,none⟩=some (.int .i64 (l.getD k 0)):=by have:=IntAt.keeps w wo b _ _ (below_boxed hb) hbl hc; rwa [Nat.mul_one] at this
      have hbad:=HFI.out k hlt
      have hgood:=fun h=>upto_succ' (f:=fun j=>notFirst C.sts (l.getD j 0)) HO.out h
      generalize l.getD k 0=x at *
      have HBW:=Lib.hid hb
      have HBAD:=Lib.hid hbad
      have HGOOD:=Lib.hid hgood
      clear hc hb hbad hgood
      cases hn:notFirst C.sts x with
      | false =>
       have HNN:=Lib.hid hn
       clear hn
       go_wp2_with fail
       refine (HN.out _ _ HBW.out).mono ?_
       rintro e w1 ⟨rfl,hb1⟩
       have HB1:=Lib.hid (HBW.out.trans (hb1.mono HBW.out.size))
       rw [HNN.out]
       clear hb1
       go_wp2_with fail
       go_ret
       exact ⟨ret_bool (HBAD.out HNN.out).symm,below_boxed HB1.out⟩
      | true =>
       have HNN:=Lib.hid hn
       clear hn
       go_wp2_with fail
       refine (HN.out _ _ HBW.out).mono ?_
       rintro e w1 ⟨rfl,hb1⟩
       have HB1:=Lib.hid (HBW.out.trans (hb1.mono HBW.out.size))
       rw [HNN.out]
       clear hb1
       go_wp2
       go_roundw
       case rel=>exact ⟨k+1,by omega,by go_num,Lib.hid (HGOOD.out HNN.out),HB1.out⟩
       case measure=>simp [intOf]; omega
    · obtain rfl:k=l.length:=by omega
      have HFST:=Lib.hid (fun i hi=>isSt_of_notFirst (HO.out i hi))
      have HALL2:=Lib.hid (HALL.out HO.out)
      have HBW:=Lib.hid hb
      clear hb HO HALL HFI
      go_wp2_with fail
      go_loopw [27] (fun i wr=>∃ k:Nat,k≤l.length∧i=.int .i64 (k:Int)∧Hid (∀ j,j < k→pairB C.sts l j=true)∧Below (w.alloc (chBox vr vs vt)).heap.size (w.alloc (chBox vr vs vt)) wr) (fun i _=>l.length - (intOf i).toNat)
      case atStart=>exact ⟨0,Nat.zero_le _,rfl,Lib.hid (fun j hj=>by omega),HBW.out⟩
      case round =>
       obtain ⟨k,hk,rfl,HO,hb⟩:=hrel
       obtain ⟨wo2,rfl⟩:∃ wo2:World,wo2=wr:=⟨_,rfl⟩
       clear x0 x1 x2
       obtain ⟨x0,x1,x2⟩:=box_later hb
       by_cases hlt:k < l.length
       · obtain ⟨b,o,rfl,hbl,hc⟩:=HE.out k (l.getD k 0) (by simp [List.getD,List.getElem?_eq_getElem hlt])
         have c0:wo2.cell? ⟨b,o+k,none⟩=some (.int .i64 (l.getD k 0)):=by have:=IntAt.keeps w wo2 b _ _ (below_boxed hb) hbl hc; rwa [Nat.mul_one] at this
         have hst:=HFST.out k hlt
         have hbad:=fun m hm=>HPA.out k m hlt hm
         have hgood:=fun h=>upto_succ' (f:=fun j=>pairB C.sts l j) HO.out h
         unfold pairB at hgood
         generalize l.getD k 0=x at *
         have HBW2:=Lib.hid hb
         have HBAD:=Lib.hid hbad
         have HGOOD:=Lib.hid hgood
         have HSX:=Lib.hid hst
         clear hc hb hbad hgood hst
         go_wp2_with fail
         go_loopw [36] (fun i wr=>∃ m:Nat,m≤k∧i=.int .i64 (m:Int)∧Hid (∀ j,j < m→apart C.sts (cCnt C.sts x) (cCnt C.sts (l.getD j 0))=true)∧Below (w.alloc (chBox vr vs vt)).heap.size (w.alloc (chBox vr vs vt)) wr) (fun i _=>k - (intOf i).toNat)
         case atStart=>exact ⟨0,Nat.zero_le _,rfl,Lib.hid (fun j hj=>by omega),HBW2.out⟩
         case round =>
          obtain ⟨m,hm,rfl,HOI,hb⟩:=hrel
          obtain ⟨wo3,rfl⟩:∃ wo3:World,wo3=wr:=⟨_,rfl⟩
          clear x0 x1 x2
          obtain ⟨x0,x1,x2⟩:=box_later hb
          by_cases hmk:m < k
          · obtain ⟨b',o',hbo,hbl',hc⟩:=HE.out m (l.getD m 0) (by simp [List.getD,List.getElem?_eq_getElem (show m < l.length by omega)])
            injection hbo with e1
            injection e1 with e2 e3
            subst e2; subst e3
            have d0:wo3.cell? ⟨b,o+m,none⟩=some (.int .i64 (l.getD m 0)):=by have:=IntAt.keeps w wo3 b _ _ (below_boxed hb) hbl' hc; rwa [Nat.mul_one] at this
            have hst2:=HFST.out m (by omega)
            have hbad:=HBAD.out m hmk
            have hgood:=fun h=>upto_succ' (f:=fun j=>apart C.sts (cCnt C.sts x) (cCnt C.sts (l.getD j 0))) HOI.out h
            generalize l.getD m 0=y at *
            have HBW3:=Lib.hid hb
            have HBADM:=Lib.hid hbad
            have HGOODM:=Lib.hid hgood
            have HSY:=Lib.hid hst2
            clear hc hbad hgood hst2
            have hlt0:w.heap.size < (w.alloc (chBox vr vs vt)).heap.size:=by simp
            have HG0:=Lib.hid hlt0
            clear hlt0
            cases hap:apart C.sts (cCnt C.sts x) (cCnt C.sts y) with
            | true =>
             have HAPP:=Lib.hid hap
             clear hap
             go_wp2_with fail
             go_region_held3 (fun w'=>w'.cell? ⟨w.heap.size,0,none⟩=some (.int .i64 vr)∧w'.cell? ⟨w.heap.size,1,none⟩=some vs∧w'.cell? ⟨w.heap.size,2,none⟩=some vt∧Below (w.alloc (chBox vr vs vt)).heap.size (w.alloc (chBox vr vs vt)) w') (first | exact ⟨x0,x1,x2,below_drew HBW3.out⟩ | exact sx_keep HG0.out (by assumption) (by assumption))
              (first | (go_at_call 142; refine (HCN.out _ _ (by first | exact HSX.out | exact HSY.out) (by (exact (by assumption:_∧_∧_∧_).2.2.2))).mono ?_; rintro e w' ⟨rfl,hbc⟩) | (go_at_call 141; refine (HAP.out _ _ _ (by (exact (by assumption:_∧_∧_∧_).2.2.2))).mono ?_; rintro e w' ⟨rfl,hbc⟩))
             have HB4:Hid (Below (w.alloc (chBox vr vs vt)).heap.size (w.alloc (chBox vr vs vt)) w'):=Lib.hid (by exact (by assumption:_∧_∧_∧_).2.2.2)
             rw [HAPP.out]
             clear hbc
             go_wp2
             go_roundw
             case rel=>exact ⟨m+1,by omega,by go_num,Lib.hid (HGOODM.out HAPP.out),HB4.out⟩
             case measure=>simp [intOf]; omega
            | false =>
             have HAPP:=Lib.hid hap
             clear hap
             go_wp2_with fail
             go_region_held3 (fun w'=>w'.cell? ⟨w.heap.size,0,none⟩=some (.int .i64 vr)∧w'.cell? ⟨w.heap.size,1,none⟩=some vs∧w'.cell? ⟨w.heap.size,2,none⟩=some vt∧Below (w.alloc (chBox vr vs vt)).heap.size (w.alloc (chBox vr vs vt)) w') (first | exact ⟨x0,x1,x2,below_drew HBW3.out⟩ | exact sx_keep HG0.out (by assumption) (by assumption))
              (first | (go_at_call 142; refine (HCN.out _ _ (by first | exact HSX.out | exact HSY.out) (by (exact (by assumption:_∧_∧_∧_).2.2.2))).mono ?_; rintro e w' ⟨rfl,hbc⟩) | (go_at_call 141; refine (HAP.out _ _ _ (by (exact (by assumption:_∧_∧_∧_).2.2.2))).mono ?_; rintro e w' ⟨rfl,hbc⟩))
             have HB4:Hid (Below (w.alloc (chBox vr vs vt)).heap.size (w.alloc (chBox vr vs vt)) w'):=Lib.hid (by exact (by assumption:_∧_∧_∧_).2.2.2)
             rw [HAPP.out]
             clear hbc
             go_wp2_with fail
             go_ret
             exact ⟨ret_bool (HBADM.out HAPP.out).symm,below_boxed HB4.out⟩
          · obtain rfl:m=k:=by omega
            have HALLK:=Lib.hid (HGOOD.out (allU_true HOI.out))
            have HBW3:=Lib.hid hb
            clear hb HOI
            go_wp2
            go_roundw
            case rel=>exact ⟨m+1,by omega,by go_num,Lib.hid (by simpa only [pairB] using HALLK.out),HBW3.out⟩
            case measure=>simp [intOf]; omega
       · obtain rfl:k=l.length:=by omega
         have HRR:=Lib.hid (HALL2.out HO.out)
         have HBW2:=Lib.hid hb
         clear hb HO HALL2
         go_wp2_with fail
         go_ret
         exact ⟨ret_bool HRR.out.symm,below_boxed HBW2.out⟩

abbrev trVal (t:Tr) (vt va:Value):Value:=.agg #[.int .i64 t.src,.int .i64 t.ev,.string t.guard,vt,.bool t.inner,va]
abbrev trBox (t:Tr) (vt va:Value):Obj:=.cells #[.int .i64 t.src,.int .i64 t.ev,.string t.guard,vt,.bool t.inner,va] 66
theorem Blk.facts6 {w:World} {g:Nat} {t:TypeId} {a b c d e f:Value} (h:Blk w g t #[a,b,c,d,e,f]) :
 w.cell? ⟨g,0,none⟩=some a∧w.cell? ⟨g,1,none⟩=some b∧w.cell? ⟨g,2,none⟩=some c∧w.cell? ⟨g,3,none⟩=some d∧w.cell? ⟨g,4,none⟩=some e∧w.cell? ⟨g,5,none⟩=some f:=⟨h.cell 0,h.cell 1,h.cell 2,h.cell 3,h.cell 4,h.cell 5⟩
theorem twot_later {w w1:World} {vr:Int} {vs vt wt wa:Value} {t:Tr} (hb:Below ((w.alloc (chBox vr vs vt)).alloc (trBox t wt wa)).heap.size ((w.alloc (chBox vr vs vt)).alloc (trBox t wt wa)) w1) :
 (w1.cell? ⟨w.heap.size,0,none⟩=some (.int .i64 vr)∧w1.cell? ⟨w.heap.size,1,none⟩=some vs∧w1.cell? ⟨w.heap.size,2,none⟩=some vt) ∧
 (w1.cell? ⟨w.heap.size+1,0,none⟩=some (.int .i64 t.src)∧w1.cell? ⟨w.heap.size+1,1,none⟩=some (.int .i64 t.ev)∧w1.cell? ⟨w.heap.size+1,2,none⟩=some (.string t.guard)∧w1.cell? ⟨w.heap.size+1,3,none⟩=some wt∧w1.cell? ⟨w.heap.size+1,4,none⟩=some (.bool t.inner)∧w1.cell? ⟨w.heap.size+1,5,none⟩=some wa) :=
 ⟨(((Blk.new w 25 #[.int .i64 vr,vs,vt]).alloc _).below hb (by simp; omega)).facts3.1,((Blk.new_at (w.alloc (chBox vr vs vt)) 66 #[.int .i64 t.src,.int .i64 t.ev,.string t.guard,wt,.bool t.inner,wa] (w.heap.size+1) (by simp)).below hb (by simp)).facts6⟩
set_option maxHeartbeats 4000000 in
theorem trF_any (vs vt wt wa:Value) (C:Ch) (t:Tr) (w:World) (hL:Laid w) (hC:ChHas w vs vt C) (hl:C.sts.length≤1000) (hv:-1000≤C.vars) (hv2:C.vars≤1000)
 (ht:TrHas w wt wa t) (hsh:ShortTr t) (hg:t.guard.size≤1000000) (has:ShortActs t.acts) :
 Calls Tryz.prog 60 #[.agg #[.int .i64 C.vars,vs,vt],trVal t wt wa] w fun e w'=>e=.returned (.int .i64 (trF hasTB C.sts C.vars t))∧Below w.heap.size w w':=by
 have hsl:Short C.sts.length:=by unfold Short; omega
 have H1:=Lib.hid (fun (W:World) (hb:Below w.heap.size w W)=>src_any C.vars t.src vs vt C W (hC.below hb) hsl)
 have H2:=Lib.hid (fun (W:World) (hb:Below w.heap.size w W)=>ev_any C.vars t.ev vs vt C W (hC.below hb) hl)
 have H3:=Lib.hid (fun (W:World) (hb:Below w.heap.size w W)=>tgts_any C.vars vs vt wt C t.tgts W (hC.below hb) hl (ht.1.below hb) hsh.1)
 have H4:=Lib.hid (fun (W:World) (hb:Below w.heap.size w W)=>hasType_any t.guard C.vars 2 W (hL.after hb) hg)
 have H5:=Lib.hid (fun (W:World) (hb:Below w.heap.size w W)=>acts_any wa t.acts C.vars W (hL.after hb) (ht.2.below hb) hsh.2 has hv hv2)
 have hR:trF hasTB C.sts C.vars t=trF hasTB C.sts C.vars t:=rfl
 conv at hR=>rhs; unfold trF
 obtain ⟨tA,tcap,aA,acap,rfl,rfl⟩:=ht.slices
 generalize trF hasTB C.sts C.vars t=R at *
 generalize actsB hasTB C.vars t.acts=b5 at *
 generalize hasTB t.guard C.vars 2=b4 at *
 generalize tgtsB C.sts t.tgts=b3 at *
 generalize evB C.sts t.ev=b2 at *
 generalize srcB C.sts t.src=b1 at *
 have HR:=Lib.hid hR
 have hz:=size_toList t.guard
 generalize t.tgts.length=tl at *
 generalize t.acts.length=al at *
 obtain ⟨src,ev,guard,tgts,inner,acts⟩:=t
 simp only at HR H1 H2 H3 H4 H5 hz ⊢
 clear hR hL hC ht hsh hg has
 cases b1 with
 | false =>
  have HQ0:Hid (Below ((w.alloc (chBox C.vars vs vt)).alloc (trBox ⟨src,ev,guard,tgts,inner,acts⟩ (.slice tA tl tcap) (.slice aA al acap))).heap.size ((w.alloc (chBox C.vars vs vt)).alloc (trBox ⟨src,ev,guard,tgts,inner,acts⟩ (.slice tA tl tcap) (.slice aA al acap))) ((w.alloc (chBox C.vars vs vt)).alloc (trBox ⟨src,ev,guard,tgts,inner,acts⟩ (.slice tA tl tcap) (.slice aA al acap)))):=Lib.hid (Below.refl _ _)
  go_enter Tryz.func60,Tryz.ntmps60
  go_wp2_with fail
  refine (H1.out _ (below_twod HQ0.out)).mono ?_
  rintro e w1 ⟨rfl,hb1⟩
  have hQ1:=HQ0.out.trans (hb1.mono HQ0.out.size)
  obtain ⟨⟨x0,x1,x2⟩,y0,y1,y2,y3,y4,y5⟩:=twot_later hQ1
  have HQ1:=Lib.hid hQ1
  clear hb1 hQ1
  go_wp2_with fail
  go_ret
  exact ⟨ret_int (by rw [HR.out]; rfl),below_twod HQ1.out⟩
 | true =>
  cases b2 with
  | false =>
   have HQ0:Hid (Below ((w.alloc (chBox C.vars vs vt)).alloc (trBox ⟨src,ev,guard,tgts,inner,acts⟩ (.slice tA tl tcap) (.slice aA al acap))).heap.size ((w.alloc (chBox C.vars vs vt)).alloc (trBox ⟨src,ev,guard,tgts,inner,acts⟩ (.slice tA tl tcap) (.slice aA al acap))) ((w.alloc (chBox C.vars vs vt)).alloc (trBox ⟨src,ev,guard,tgts,inner,acts⟩ (.slice tA tl tcap) (.slice aA al acap)))):=Lib.hid (Below.refl _ _)
   go_enter Tryz.func60,Tryz.ntmps60
   go_wp2_with fail
   refine (H1.out _ (below_twod HQ0.out)).mono ?_
   rintro e w1 ⟨rfl,hb1⟩
   have hQ1:=HQ0.out.trans (hb1.mono HQ0.out.size)
   obtain ⟨⟨x0,x1,x2⟩,y0,y1,y2,y3,y4,y5⟩:=twot_later hQ1
   have HQ1:=Lib.hid hQ1
   clear hb1 hQ1
   go_wp2_with fail
   refine (H2.out _ (below_twod HQ1.out)).mono ?_
   rintro e w2 ⟨rfl,hb2⟩
   have hQ2:=HQ1.out.trans (hb2.mono HQ1.out.size)
   clear x0 x1 x2 y0 y1 y2 y3 y4 y5
   obtain ⟨⟨x0,x1,x2⟩,y0,y1,y2,y3,y4,y5⟩:=twot_later hQ2
   have HQ2:=Lib.hid hQ2
   clear hb2 hQ2
   go_wp2_with fail
   go_ret
   exact ⟨ret_int (by rw [HR.out]; rfl),below_twod HQ2.out⟩
  | true =>
   cases b3 with
   | false =>
    have HQ0:Hid (Below ((w.alloc (chBox C.vars vs vt)).alloc (trBox ⟨src,ev,guard,tgts,inner,acts⟩ (.slice tA tl tcap) (.slice aA al acap))).heap.size ((w.alloc (chBox C.vars vs vt)).alloc (trBox ⟨src,ev,guard,tgts,inner,acts⟩ (.slice tA tl tcap) (.slice aA al acap))) ((w.alloc (chBox C.vars vs vt)).alloc (trBox ⟨src,ev,guard,tgts,inner,acts⟩ (.slice tA tl tcap) (.slice aA al acap)))):=Lib.hid (Below.refl _ _)
    go_enter Tryz.func60,Tryz.ntmps60
    go_wp2_with fail
    refine (H1.out _ (below_twod HQ0.out)).mono ?_
    rintro e w1 ⟨rfl,hb1⟩
    have hQ1:=HQ0.out.trans (hb1.mono HQ0.out.size)
    obtain ⟨⟨x0,x1,x2⟩,y0,y1,y2,y3,y4,y5⟩:=twot_later hQ1
    have HQ1:=Lib.hid hQ1
    clear hb1 hQ1
    go_wp2_with fail
    refine (H2.out _ (below_twod HQ1.out)).mono ?_
    rintro e w2 ⟨rfl,hb2⟩
    have hQ2:=HQ1.out.trans (hb2.mono HQ1.out.size)
    clear x0 x1 x2 y0 y1 y2 y3 y4 y5
    obtain ⟨⟨x0,x1,x2⟩,y0,y1,y2,y3,y4,y5⟩:=twot_later hQ2
    have HQ2:=Lib.hid hQ2
    clear hb2 hQ2
    go_wp2_with fail
    refine (H3.out _ (below_twod HQ2.out)).mono ?_
    rintro e w3 ⟨rfl,hb3⟩
    have hQ3:=HQ2.out.trans (hb3.mono HQ2.out.size)
    clear x0 x1 x2 y0 y1 y2 y3 y4 y5
    obtain ⟨⟨x0,x1,x2⟩,y0,y1,y2,y3,y4,y5⟩:=twot_later hQ3
    have HQ3:=Lib.hid hQ3
    clear hb3 hQ3
    go_wp2_with fail
    go_ret
    exact ⟨ret_int (by rw [HR.out]; rfl),below_twod HQ3.out⟩
   | true =>
    by_cases h0:guard.size=0
    · rw [show decide (guard.size=0)=true by simpa using h0] at hz
      have hz2:(!guard.toList.isEmpty)=false:=by rw [hz]; rfl
      have hz3:guard.toList=[]:=by simpa using hz
      have H0:=Lib.hid h0
      clear h0
      cases b5 with
      | false =>
       have HQ0:Hid (Below ((w.alloc (chBox C.vars vs vt)).alloc (trBox ⟨src,ev,guard,tgts,inner,acts⟩ (.slice tA tl tcap) (.slice aA al acap))).heap.size ((w.alloc (chBox C.vars vs vt)).alloc (trBox ⟨src,ev,guard,tgts,inner,acts⟩ (.slice tA tl tcap) (.slice aA al acap))) ((w.alloc (chBox C.vars vs vt)).alloc (trBox ⟨src,ev,guard,tgts,inner,acts⟩ (.slice tA tl tcap) (.slice aA al acap)))):=Lib.hid (Below.refl _ _)
       go_enter Tryz.func60,Tryz.ntmps60
       go_wp2_with fail
       refine (H1.out _ (below_twod HQ0.out)).mono ?_
       rintro e w1 ⟨rfl,hb1⟩
       have hQ1:=HQ0.out.trans (hb1.mono HQ0.out.size)
       obtain ⟨⟨x0,x1,x2⟩,y0,y1,y2,y3,y4,y5⟩:=twot_later hQ1
       have HQ1:=Lib.hid hQ1
       clear hb1 hQ1
       go_wp2_with fail
       refine (H2.out _ (below_twod HQ1.out)).mono ?_
       rintro e w2 ⟨rfl,hb2⟩
       have hQ2:=HQ1.out.trans (hb2.mono HQ1.out.size)
       clear x0 x1 x2 y0 y1 y2 y3 y4 y5
       obtain ⟨⟨x0,x1,x2⟩,y0,y1,y2,y3,y4,y5⟩:=twot_later hQ2
       have HQ2:=Lib.hid hQ2
       clear hb2 hQ2
       go_wp2_with fail
       refine (H3.out _ (below_twod HQ2.out)).mono ?_
       rintro e w3 ⟨rfl,hb3⟩
       have hQ3:=HQ2.out.trans (hb3.mono HQ2.out.size)
       clear x0 x1 x2 y0 y1 y2 y3 y4 y5
       obtain ⟨⟨x0,x1,x2⟩,y0,y1,y2,y3,y4,y5⟩:=twot_later hQ3
       have HQ3:=Lib.hid hQ3
       clear hb3 hQ3
       go_wp2_with fail
       refine (H5.out _ (below_twod HQ3.out)).mono ?_
       rintro e w4 ⟨rfl,hb4⟩
       have hQ4:=HQ3.out.trans (hb4.mono HQ3.out.size)
       clear x0 x1 x2 y0 y1 y2 y3 y4 y5
       obtain ⟨⟨x0,x1,x2⟩,y0,y1,y2,y3,y4,y5⟩:=twot_later hQ4
       have HQ4:=Lib.hid hQ4
       clear hb4 hQ4
       go_wp2_with fail
       go_ret
       exact ⟨ret_int (by rw [HR.out]; simp [H0.out]),below_twod HQ4.out⟩
      | true =>
       have HQ0:Hid (Below ((w.alloc (chBox C.vars vs vt)).alloc (trBox ⟨src,ev,guard,tgts,inner,acts⟩ (.slice tA tl tcap) (.slice aA al acap))).heap.size ((w.alloc (chBox C.vars vs vt)).alloc (trBox ⟨src,ev,guard,tgts,inner,acts⟩ (.slice tA tl tcap) (.slice aA al acap))) ((w.alloc (chBox C.vars vs vt)).alloc (trBox ⟨src,ev,guard,tgts,inner,acts⟩ (.slice tA tl tcap) (.slice aA al acap)))):=Lib.hid (Below.refl _ _)
       go_enter Tryz.func60,Tryz.ntmps60
       go_wp2_with fail
       refine (H1.out _ (below_twod HQ0.out)).mono ?_
       rintro e w1 ⟨rfl,hb1⟩
       have hQ1:=HQ0.out.trans (hb1.mono HQ0.out.size)
       obtain ⟨⟨x0,x1,x2⟩,y0,y1,y2,y3,y4,y5⟩:=twot_later hQ1
       have HQ1:=Lib.hid hQ1
       clear hb1 hQ1
       go_wp2_with fail
       refine (H2.out _ (below_twod HQ1.out)).mono ?_
       rintro e w2 ⟨rfl,hb2⟩
       have hQ2:=HQ1.out.trans (hb2.mono HQ1.out.size)
       clear x0 x1 x2 y0 y1 y2 y3 y4 y5
       obtain ⟨⟨x0,x1,x2⟩,y0,y1,y2,y3,y4,y5⟩:=twot_later hQ2
       have HQ2:=Lib.hid hQ2
       clear hb2 hQ2
       go_wp2_with fail
       refine (H3.out _ (below_twod HQ2.out)).mono ?_
       rintro e w3 ⟨rfl,hb3⟩
       have hQ3:=HQ2.out.trans (hb3.mono HQ2.out.size)
       clear x0 x1 x2 y0 y1 y2 y3 y4 y5
       obtain ⟨⟨x0,x1,x2⟩,y0,y1,y2,y3,y4,y5⟩:=twot_later hQ3
       have HQ3:=Lib.hid hQ3
       clear hb3 hQ3
       go_wp2_with fail
       refine (H5.out _ (below_twod HQ3.out)).mono ?_
       rintro e w4 ⟨rfl,hb4⟩
       have hQ4:=HQ3.out.trans (hb4.mono HQ3.out.size)
       clear x0 x1 x2 y0 y1 y2 y3 y4 y5
       obtain ⟨⟨x0,x1,x2⟩,y0,y1,y2,y3,y4,y5⟩:=twot_later hQ4
       have HQ4:=Lib.hid hQ4
       clear hb4 hQ4
       go_wp2_with fail
       go_ret
       exact ⟨ret_int (by rw [HR.out]; simp [H0.out]),below_twod HQ4.out⟩
    · rw [show decide (guard.size=0)=false by simpa using h0] at hz
      have hz2:(!guard.toList.isEmpty)=true:=by rw [hz]; rfl
      have hz3:¬ guard.toList=[]:=by intro h; rw [h] at hz; cases hz
      have H0:=Lib.hid h0
      clear h0
      cases b4 with
      | false =>
       have HQ0:Hid (Below ((w.alloc (chBox C.vars vs vt)).alloc (trBox ⟨src,ev,guard,tgts,inner,acts⟩ (.slice tA tl tcap) (.slice aA al acap))).heap.size ((w.alloc (chBox C.vars vs vt)).alloc (trBox ⟨src,ev,guard,tgts,inner,acts⟩ (.slice tA tl tcap) (.slice aA al acap))) ((w.alloc (chBox C.vars vs vt)).alloc (trBox ⟨src,ev,guard,tgts,inner,acts⟩ (.slice tA tl tcap) (.slice aA al acap)))):=Lib.hid (Below.refl _ _)
       go_enter Tryz.func60,Tryz.ntmps60
       go_wp2_with fail
       refine (H1.out _ (below_twod HQ0.out)).mono ?_
       rintro e w1 ⟨rfl,hb1⟩
       have hQ1:=HQ0.out.trans (hb1.mono HQ0.out.size)
       obtain ⟨⟨x0,x1,x2⟩,y0,y1,y2,y3,y4,y5⟩:=twot_later hQ1
       have HQ1:=Lib.hid hQ1
       clear hb1 hQ1
       go_wp2_with fail
       refine (H2.out _ (below_twod HQ1.out)).mono ?_
       rintro e w2 ⟨rfl,hb2⟩
       have hQ2:=HQ1.out.trans (hb2.mono HQ1.out.size)
       clear x0 x1 x2 y0 y1 y2 y3 y4 y5
       obtain ⟨⟨x0,x1,x2⟩,y0,y1,y2,y3,y4,y5⟩:=twot_later hQ2
       have HQ2:=Lib.hid hQ2
       clear hb2 hQ2
       go_wp2_with fail
       refine (H3.out _ (below_twod HQ2.out)).mono ?_
       rintro e w3 ⟨rfl,hb3⟩
       have hQ3:=HQ2.out.trans (hb3.mono HQ2.out.size)
       clear x0 x1 x2 y0 y1 y2 y3 y4 y5
       obtain ⟨⟨x0,x1,x2⟩,y0,y1,y2,y3,y4,y5⟩:=twot_later hQ3
       have HQ3:=Lib.hid hQ3
       clear hb3 hQ3
       go_wp2_with fail
       refine (H4.out _ (below_twod HQ3.out)).mono ?_
       rintro e w4 ⟨rfl,hb4⟩
       have hQ4:=HQ3.out.trans (hb4.mono HQ3.out.size)
       clear x0 x1 x2 y0 y1 y2 y3 y4 y5
       obtain ⟨⟨x0,x1,x2⟩,y0,y1,y2,y3,y4,y5⟩:=twot_later hQ4
       have HQ4:=Lib.hid hQ4
       clear hb4 hQ4
       go_wp2_with fail
       go_ret
       exact ⟨ret_int (by rw [HR.out]; simp [H0.out]),below_twod HQ4.out⟩
      | true =>
       cases b5 with
       | false =>
        have HQ0:Hid (Below ((w.alloc (chBox C.vars vs vt)).alloc (trBox ⟨src,ev,guard,tgts,inner,acts⟩ (.slice tA tl tcap) (.slice aA al acap))).heap.size ((w.alloc (chBox C.vars vs vt)).alloc (trBox ⟨src,ev,guard,tgts,inner,acts⟩ (.slice tA tl tcap) (.slice aA al acap))) ((w.alloc (chBox C.vars vs vt)).alloc (trBox ⟨src,ev,guard,tgts,inner,acts⟩ (.slice tA tl tcap) (.slice aA al acap)))):=Lib.hid (Below.refl _ _)
        go_enter Tryz.func60,Tryz.ntmps60
        go_wp2_with fail
        refine (H1.out _ (below_twod HQ0.out)).mono ?_
        rintro e w1 ⟨rfl,hb1⟩
        have hQ1:=HQ0.out.trans (hb1.mono HQ0.out.size)
        obtain ⟨⟨x0,x1,x2⟩,y0,y1,y2,y3,y4,y5⟩:=twot_later hQ1
        have HQ1:=Lib.hid hQ1
        clear hb1 hQ1
        go_wp2_with fail
        refine (H2.out _ (below_twod HQ1.out)).mono ?_
        rintro e w2 ⟨rfl,hb2⟩
        have hQ2:=HQ1.out.trans (hb2.mono HQ1.out.size)
        clear x0 x1 x2 y0 y1 y2 y3 y4 y5
        obtain ⟨⟨x0,x1,x2⟩,y0,y1,y2,y3,y4,y5⟩:=twot_later hQ2
        have HQ2:=Lib.hid hQ2
        clear hb2 hQ2
        go_wp2_with fail
        refine (H3.out _ (below_twod HQ2.out)).mono ?_
        rintro e w3 ⟨rfl,hb3⟩
        have hQ3:=HQ2.out.trans (hb3.mono HQ2.out.size)
        clear x0 x1 x2 y0 y1 y2 y3 y4 y5
        obtain ⟨⟨x0,x1,x2⟩,y0,y1,y2,y3,y4,y5⟩:=twot_later hQ3
        have HQ3:=Lib.hid hQ3
        clear hb3 hQ3
        go_wp2_with fail
        refine (H4.out _ (below_twod HQ3.out)).mono ?_
        rintro e w4 ⟨rfl,hb4⟩
        have hQ4:=HQ3.out.trans (hb4.mono HQ3.out.size)
        clear x0 x1 x2 y0 y1 y2 y3 y4 y5
        obtain ⟨⟨x0,x1,x2⟩,y0,y1,y2,y3,y4,y5⟩:=twot_later hQ4
        have HQ4:=Lib.hid hQ4
        clear hb4 hQ4
        go_wp2_with fail
        refine (H5.out _ (below_twod HQ4.out)).mono ?_
        rintro e w5 ⟨rfl,hb5⟩
        have hQ5:=HQ4.out.trans (hb5.mono HQ4.out.size)
        clear x0 x1 x2 y0 y1 y2 y3 y4 y5
        obtain ⟨⟨x0,x1,x2⟩,y0,y1,y2,y3,y4,y5⟩:=twot_later hQ5
        have HQ5:=Lib.hid hQ5
        clear hb5 hQ5
        go_wp2_with fail
        go_ret
        exact ⟨ret_int (by rw [HR.out]; simp [H0.out]),below_twod HQ5.out⟩
       | true =>
        have HQ0:Hid (Below ((w.alloc (chBox C.vars vs vt)).alloc (trBox ⟨src,ev,guard,tgts,inner,acts⟩ (.slice tA tl tcap) (.slice aA al acap))).heap.size ((w.alloc (chBox C.vars vs vt)).alloc (trBox ⟨src,ev,guard,tgts,inner,acts⟩ (.slice tA tl tcap) (.slice aA al acap))) ((w.alloc (chBox C.vars vs vt)).alloc (trBox ⟨src,ev,guard,tgts,inner,acts⟩ (.slice tA tl tcap) (.slice aA al acap)))):=Lib.hid (Below.refl _ _)
        go_enter Tryz.func60,Tryz.ntmps60
        go_wp2_with fail
        refine (H1.out _ (below_twod HQ0.out)).mono ?_
        rintro e w1 ⟨rfl,hb1⟩
        have hQ1:=HQ0.out.trans (hb1.mono HQ0.out.size)
        obtain ⟨⟨x0,x1,x2⟩,y0,y1,y2,y3,y4,y5⟩:=twot_later hQ1
        have HQ1:=Lib.hid hQ1
        clear hb1 hQ1
        go_wp2_with fail
        refine (H2.out _ (below_twod HQ1.out)).mono ?_
        rintro e w2 ⟨rfl,hb2⟩
        have hQ2:=HQ1.out.trans (hb2.mono HQ1.out.size)
        clear x0 x1 x2 y0 y1 y2 y3 y4 y5
        obtain ⟨⟨x0,x1,x2⟩,y0,y1,y2,y3,y4,y5⟩:=twot_later hQ2
        have HQ2:=Lib.hid hQ2
        clear hb2 hQ2
        go_wp2_with fail
        refine (H3.out _ (below_twod HQ2.out)).mono ?_
        rintro e w3 ⟨rfl,hb3⟩
        have hQ3:=HQ2.out.trans (hb3.mono HQ2.out.size)
        clear x0 x1 x2 y0 y1 y2 y3 y4 y5
        obtain ⟨⟨x0,x1,x2⟩,y0,y1,y2,y3,y4,y5⟩:=twot_later hQ3
        have HQ3:=Lib.hid hQ3
        clear hb3 hQ3
        go_wp2_with fail
        refine (H4.out _ (below_twod HQ3.out)).mono ?_
        rintro e w4 ⟨rfl,hb4⟩
        have hQ4:=HQ3.out.trans (hb4.mono HQ3.out.size)
        clear x0 x1 x2 y0 y1 y2 y3 y4 y5
        obtain ⟨⟨x0,x1,x2⟩,y0,y1,y2,y3,y4,y5⟩:=twot_later hQ4
        have HQ4:=Lib.hid hQ4
        clear hb4 hQ4
        go_wp2_with fail
        refine (H5.out _ (below_twod HQ4.out)).mono ?_
        rintro e w5 ⟨rfl,hb5⟩
        have hQ5:=HQ4.out.trans (hb5.mono HQ4.out.size)
        clear x0 x1 x2 y0 y1 y2 y3 y4 y5
        obtain ⟨⟨x0,x1,x2⟩,y0,y1,y2,y3,y4,y5⟩:=twot_later hQ5
        have HQ5:=Lib.hid hQ5
        clear hb5 hQ5
        go_wp2_with fail
        go_ret
        exact ⟨ret_int (by rw [HR.out]; simp [H0.out]),below_twod HQ5.out⟩
end Go.Proofs.YtmhkpjcdkjnlnaaGreatDoor
