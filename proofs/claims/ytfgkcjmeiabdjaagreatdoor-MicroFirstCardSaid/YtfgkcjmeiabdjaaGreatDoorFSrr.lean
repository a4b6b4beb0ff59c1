/- The contracts of enter.Real and enter.Set. -/
import Derived.Test.YtfgkcjmeiabdjaaGreatDoorFSbl
import Derived.Test.YtfgkcjmeiabdjaaGreatDoorFSx
import Derived.Test.YtfgkcjmeiabdjaaGreatDoorFSrl
namespace Go.Proofs.YtfgkcjmeiabdjaaGreatDoor
open Go.ChangeShapes Go.WideShapes Go.ChangeAt Go.RowKit
set_option linter.unusedVariables false

theorem memb_len (S:List St) (P:Nat→Bool):(memb S P).length≤S.length:=membU_len P _
theorem memb_valid {S:List St} {P:Nat→Bool} {x:Int} (h:x ∈ memb S P):isSt S x=true:=by
  unfold memb at h
  obtain ⟨j,hj,rfl⟩:=List.mem_map.1 h
  exact isSt_of (List.mem_range.1 (List.mem_filter.1 hj).1)
theorem of_valid {S:List St} (hT:Tame S) (H:List Nat) (s:Int):(ofS S H s).length≤31∧∀ x ∈ ofS S H s,isSt S x=true:=by
  unfold ofS
  split
  · exact ⟨by simp,fun x hx=>by cases hx⟩
  · rename_i hs
    have hs:isSt S s=true:=by simpa using hs
    split
    · refine ⟨by simp,fun x hx=>?_⟩
      obtain rfl:=List.mem_singleton.1 hx
      exact hs
    · rename_i hh
      have hh:histB (stAt S s).kind=true:=by simpa using hh
      split
      · exact ⟨by have:=memb_len S (bitN (histAt H s)); have:=hT.len; omega,fun x hx=>memb_valid hx⟩
      · obtain ⟨t,h1,h2,_⟩:=hT.ini5 s hs hh
        rw [h1]
        refine ⟨by simp,fun x hx=>?_⟩
        obtain rfl:=List.mem_singleton.1 hx
        exact h2
theorem fold_realIn:∀ (M acc:List Int),(M.foldl realIn acc).length≤acc.length+M.length
  | [],acc=>by simp
  | x :: M,acc=>by
    have h1:=fold_realIn M (realIn acc x)
    have h2:(realIn acc x).length≤acc.length+1:=by unfold realIn; split <;> simp
    rw [List.foldl_cons,List.length_cons]
    omega
theorem real_len {S:List St} (hT:Tame S) (H:List Nat) (l:List Int):(realS S H l).length≤31 * l.length:=by
  have:∀ (l acc:List Int),(l.foldl (fun acc s=>(ofS S H s).foldl realIn acc) acc).length≤acc.length+31 * l.length:=by
    intro l
    induction l with
    | nil=>intro acc; simp
    | cons s l ih =>
      intro acc
      have h1:=ih ((ofS S H s).foldl realIn acc)
      have h2:=fold_realIn (ofS S H s) acc
      have h3:=(of_valid hT H s).1
      rw [List.foldl_cons,List.length_cons]
      omega
  have h:=this l []
  rw [List.length_nil,Nat.zero_add] at h
  exact h
theorem ent_of {w:World} {t:Nat} {vs vh:Value} {C:Ch} {H:List Nat} (hT:TreeAt w t C) (hk:chk hasTB C=.ok) (hF:fewB C=true) (hS:StsAt w vs C.sts) (hH:HistAt w vh H) (hl:H.length≤1000):Ent w t vs vh C H:=by
  have hta:=tame_of hk
  refine ⟨hT,hS,hH,rooted_of hk,hta.len,hl,fun s=>by have:=(of_valid hta H s).1; omega,fun s hs=>?_⟩
  obtain ⟨k,rfl,hkl⟩:=isSt_nat hs
  have:=(few_sms hF hkl).1
  have he:stAt C.sts (k:Int)=C.sts.getD k noSt:=by unfold stAt; rfl
  rw [he]
  omega
set_option maxHeartbeats 4000000 in
set_option maxRecDepth 100000 in
theorem enterSet_any (t:Nat) (a:Int) (vh vl:Value) (C:Ch) (H:List Nat) (l:List Int) (w:World) (hT:TreeAt w t C) (hk:chk hasTB C=.ok) (hF:fewB C=true) (hH:HistAt w vh H) (hl:H.length≤1000) (hv:ListAt w vl l) (hll:l.length≤1000) :
    Calls Tryz.prog 66 #[.pointer (some ⟨t,0,none⟩),vh,.int .i64 a,vl] w fun e w'=>e=.returned (.int .u32 ((bset (pSet C.sts H a l).a C.sts.length:Nat):Int))∧Below w.heap.size w w':=by
  have hta:=tame_of hk
  obtain ⟨hA,hcap,rfl,hhcap⟩:=RowsAt.slice hH
  have HSI:=Lib.hid (standIns_any t hA H.length hcap C w hT hF)
  have HENT:=Lib.hid (fun (W:World) (vs:Value) (hb:Below w.heap.size w W) (hS:StsAt W vs C.sts)=>ent_of (hT.below hb) hk hF hS (hH.below hb) hl)
  have HRL:=Lib.hid (fun (W:World) (vs:Value) (hS:StsAt W vs C.sts) (hH:HistAt W (.slice hA H.length hcap) H) (hv:ListAt W vl l)=>real_any vs (.slice hA H.length hcap) vl C.sts H l W hS hH hv (by have:=hta.len; omega) hl hll (fun s=>of_valid hta H s))
  have HLV:=Lib.hid hv
  obtain ⟨lA,lcap,rfl,hlcap⟩:=RowsAt.slice hv
  obtain ⟨st0,hst0⟩:∃ st0:Bs,st0=⟨fun _=>false,fun _=>false⟩:=⟨_,rfl⟩
  obtain ⟨M,hM⟩:∃ M:Bs,M=l.foldl (pB C.sts H (C.sts.length+2)) st0:=⟨_,rfl⟩
  obtain ⟨D,hD⟩:∃ D:Bs,D=(realS C.sts H l).foldl (aboveW C.sts (tB C.sts) adB (pB C.sts H (C.sts.length+2)) a) M:=⟨_,rfl⟩
  have HRES:Hid (pSet C.sts H a l=D):=Lib.hid (by rw [hD,hM,hst0]; rfl)
  have HM:=Lib.hid hM
  have HD:=Lib.hid hD
  have HC0:Hid (cntU C.sts.length st0.b≤C.sts.length+2):=Lib.hid (by rw [hst0]; show cntU C.sts.length (fun _=>false)≤_; rw [cntU_top]; omega)
  have HZ:Hid (bset st0.a C.sts.length=0∧bset st0.b C.sts.length=0):=Lib.hid (by
    have h:bset (fun _=>false) C.sts.length=0:=(bset_zero _ _).2 (by rw [List.any_eq_false]; intro x _; simp)
    rw [hst0]; exact ⟨h,h⟩)
  have hrl:(realS C.sts H l).length≤1000000:=by have:=real_len hta H l; omega
  generalize realS C.sts H l=R at *
  clear hT hk hF hH hv hst0 hM hD
  go_enter Tryz.func66,Tryz.ntmps66
  go_wp2_with fail
  refine HSI.out.mono ?_
  rintro e w1 ⟨hb1,vs,rfl,hS1⟩
  obtain ⟨sA,scap,rfl,hscap⟩:=RowsAt.slice hS1
  have HB1:=Lib.hid hb1
  have HN:=Lib.hid (HENT.out w1 _ hb1 hS1)
  have HL1:=Lib.hid (HLV.out.below hb1)
  have HE0:Hid (EAt w1 t (.slice sA C.sts.length scap) (.slice hA H.length hcap) C.sts.length st0 (w1.alloc (.cells #[.slice sA C.sts.length scap,.slice hA H.length hcap,.pointer (some ⟨t,0,none⟩),.int .u32 0,.int .u32 0] 149))):=Lib.hid ⟨below_box w1 _,by rw [HZ.out.1,HZ.out.2]; exact Blk.new w1 149 _⟩
  have HL0:Hid (LiAt (fun b=>b ≠ w1.heap.size) (w1.alloc (.cells #[.slice sA C.sts.length scap,.slice hA H.length hcap,.pointer (some ⟨t,0,none⟩),.int .u32 0,.int .u32 0] 149)) (.slice lA l.length lcap) l):=Lib.hid (list_in HL1.out (below_box w1 _))
  clear hb1 hS1 HSI HENT
  go_wp2_with fail
  go_loopw [23] (fun i wr=>∃ (k:Nat) (st2:Bs),k≤l.length∧i=.int .i64 (k:Int)∧Hid (EAt w1 t (.slice sA C.sts.length scap) (.slice hA H.length hcap) C.sts.length st2 wr)∧Hid (cntU C.sts.length st2.b≤C.sts.length+2)∧Hid (LiAt (fun b=>b ≠ w1.heap.size) wr (.slice lA l.length lcap) l)∧Hid (M=(l.drop k).foldl (pB C.sts H (C.sts.length+2)) st2)) (fun i _=>l.length - (intOf i).toNat)
  case atStart=>exact ⟨0,st0,Nat.zero_le _,rfl,HE0,HC0,HL0,HM⟩
  case round =>
    clear HE0 HC0 HL0 HM
    obtain ⟨k,st2,hk,rfl,HE,HC,HL,HR⟩:=hrel
    obtain ⟨wo,rfl⟩:∃ wo:World,wo=wr:=⟨_,rfl⟩
    by_cases hlt:k < l.length
    · obtain ⟨mb,mo,hmA,hmbl,hmc0,hmne⟩:=(let ⟨_,_,h1,_,h3⟩:=HL.out; by injection h1 with e1 e2 e3; subst e1; exact h3 k _ (List.getElem?_eq_getElem hlt):∃ b o,lA=some ⟨b,o,none⟩∧b < wo.heap.size∧(IntAt wo b (o+k * 1) l[k])∧_)
      subst hmA
      have d0:wo.cell? ⟨mb,mo+k,none⟩=some (.int .i64 l[k]):=by have:=hmc0; unfold IntAt at this; rwa [Nat.mul_one] at this
      have hRK:=HR.out
      rw [List.drop_eq_getElem_cons hlt,List.foldl_cons] at hRK
      have HRK:=Lib.hid hRK
      generalize l[k]=x at *
      clear hmc0 hmne hRK HR
      go_wp2_with fail
      refine ((below_ok HN.out _) x st2 _ HE.out HC.out).mono ?_
      rintro e w6 ⟨rfl,hg6,he6⟩
      have HE6:=Lib.hid he6
      have HL6:=Lib.hid (HL.out.grown hg6 fun b _ hb h=>hb (by injection h))
      have HC6:Hid (cntU C.sts.length (pB C.sts H (C.sts.length+2) st2 x).b≤C.sts.length+2):=Lib.hid (Nat.le_trans (cntU_le _ (pB_up C.sts H _ st2 x)) HC.out)
      clear hg6 he6
      go_wp2
      go_roundw
      case rel=>exact ⟨k+1,_,by omega,by go_num,HE6,HC6,HL6,HRK⟩
      case measure=>simp [intOf]; omega
    · obtain rfl:k=l.length:=by omega
      have hR:=HR.out
      rw [List.drop_length,List.foldl_nil] at hR
      have HRR:=Lib.hid hR
      clear hR
      have HRL1:=Lib.hid (HRL.out wo _ (HN.out.sts.below HE.out.below) (HN.out.hist.below HE.out.below) (HL1.out.below HE.out.below))
      have p0:=HE.out.cells.1.1
      have p1:=HE.out.cells.1.2.1
      go_wp2_with fail
      refine HRL1.out.mono ?_
      rintro e w2 ⟨hb2,v2,rfl,ho2⟩
      have HE2:=Lib.hid (HE.out.kept hb2)
      rw [← HRR.out] at HE2 HC
      have HC2:=Lib.hid HC.out
      have HL2:Hid (LiAt (fun b=>b ≠ w1.heap.size) w2 v2 R):=Lib.hid (LiAt.of_own ho2 fun b hb=>by have:=HE.out.lt; omega)
      obtain ⟨rA,rcap,rfl,hrc⟩:=RowsAt.slice HL2.out
      clear hb2 ho2 HE HC HRR HRL1 p0 p1
      go_wp2_with fail
      go_loopw [35] (fun i wr=>∃ (k:Nat) (st2:Bs),k≤R.length∧i=.int .i64 (k:Int)∧Hid (EAt w1 t (.slice sA C.sts.length scap) (.slice hA H.length hcap) C.sts.length st2 wr)∧Hid (cntU C.sts.length st2.b≤C.sts.length+2)∧Hid (LiAt (fun b=>b ≠ w1.heap.size) wr (.slice rA R.length rcap) R)∧Hid (D=(R.drop k).foldl (aboveW C.sts (tB C.sts) adB (pB C.sts H (C.sts.length+2)) a) st2)) (fun i _=>R.length - (intOf i).toNat)
      case atStart=>exact ⟨0,M,Nat.zero_le _,rfl,HE2,HC2,HL2,HD⟩
      case round =>
        clear HE2 HC2 HL2 HD HL hlt hk
        obtain ⟨k,st2,hk,rfl,HE,HC,HL,HR⟩:=hrel
        obtain ⟨wo,rfl⟩:∃ wo:World,wo=wr:=⟨_,rfl⟩
        by_cases hlt:k < R.length
        · obtain ⟨mb,mo,hmA,hmbl,hmc0,hmne⟩:=(let ⟨_,_,h1,_,h3⟩:=HL.out; by injection h1 with e1 e2 e3; subst e1; exact h3 k _ (List.getElem?_eq_getElem hlt):∃ b o,rA=some ⟨b,o,none⟩∧b < wo.heap.size∧(IntAt wo b (o+k * 1) R[k])∧_)
          subst hmA
          have d0:wo.cell? ⟨mb,mo+k,none⟩=some (.int .i64 R[k]):=by have:=hmc0; unfold IntAt at this; rwa [Nat.mul_one] at this
          have hRK:=HR.out
          rw [List.drop_eq_getElem_cons hlt,List.foldl_cons] at hRK
          have HRK:=Lib.hid hRK
          generalize R[k]=x at *
          clear hmc0 hmne hRK HR
          go_wp2_with fail
          refine (addAbove_any HN.out (below_ok HN.out _) x a st2 _ HE.out HC.out).mono ?_
          rintro e w6 ⟨rfl,hg6,he6⟩
          have HE6:=Lib.hid he6
          have HL6:=Lib.hid (HL.out.grown hg6 fun b _ hb h=>hb (by injection h))
          have HC6:Hid (cntU C.sts.length (aboveW C.sts (tB C.sts) adB (pB C.sts H (C.sts.length+2)) a st2 x).b≤C.sts.length+2):=Lib.hid (Nat.le_trans (cntU_le _ (upW_up (pB_up C.sts H _) a (ups C.sts x) st2)) HC.out)
          clear hg6 he6
          go_wp2
          go_roundw
          case rel=>exact ⟨k+1,_,by omega,by go_num,HE6,HC6,HL6,HRK⟩
          case measure=>simp [intOf]; omega
        · obtain rfl:k=R.length:=by omega
          have hR:=HR.out
          rw [List.drop_length,List.foldl_nil] at hR
          have HRR:=Lib.hid hR
          clear hR
          have q3:=HE.out.cells.2.1
          go_wp2_with fail
          go_ret
          exact ⟨ret_int (by rw [HRES.out,HRR.out]),HB1.out.trans (HE.out.below.mono HB1.out.size)⟩
end Go.Proofs.YtfgkcjmeiabdjaaGreatDoor
/- The head of layer 8's statements (spinetlaw08.up): it holds. -/
namespace Go.Proofs.YtfgkcjmeiabdjaaGreatDoor
open Go.ChangeShapes Go.WideShapes Go.ChangeAt Go.RowKit
set_option linter.unusedVariables false

end Go.Proofs.YtfgkcjmeiabdjaaGreatDoor
/- The contracts of the document's There, Stands, Up and Bits. -/
namespace Go.Proofs.YtfgkcjmeiabdjaaGreatDoor
open Go.ChangeShapes Go.WideShapes Go.ChangeAt Go.RowKit
set_option linter.unusedVariables false

theorem there_any (vr s:Int) (vs vt:Value) (C:Ch) (w:World) (hC:ChHas w vs vt C) (hl:C.sts.length≤1000) :
    Calls Tryz.prog 70 #[.agg #[.int .i64 vr,vs,vt],.int .i64 s] w fun e w'=>e=.returned (.bool (isSt C.sts s))∧Below w.heap.size w w':=by
  obtain ⟨A,cap,rfl,hcap⟩:=RowsAt.slice hC.1
  have HB:=Lib.hid (below_box w (chBox vr (.slice A C.sts.length cap) vt))
  clear hC
  by_cases h:0≤s
  · have h2:decide (0≤s)=true:=by simpa using h
    go_enter Tryz.func70,Tryz.ntmps70
    go_wp2_with fail
    go_ret
    exact ⟨ret_bool (by unfold isSt; rw [h2]; rfl),HB.out⟩
  · have h2:decide (0≤s)=false:=by simpa using h
    go_enter Tryz.func70,Tryz.ntmps70
    go_wp2_with fail
    go_ret
    exact ⟨ret_bool (by unfold isSt; rw [h2]; rfl),HB.out⟩
def stD (S:List St) (H:List Nat) (s:Int):List Int:=if histAt H s ≠ 0 then membU (bitN (histAt H s)) 32 else (stAt S s).ini
set_option maxHeartbeats 4000000 in
set_option maxRecDepth 100000 in
theorem stands_any (vr:Int) (vs vt vh:Value) (C:Ch) (H:List Nat) (k:Nat) (w0 w:World) (hb0:Below w0.heap.size w0 w) (hC0:ChHas w0 vs vt C) (hH0:HistAt w0 vh H) (hl:C.sts.length≤1000) (hHl:H.length≤1000) (hk:k < C.sts.length) :
    Calls Tryz.prog 35 #[.agg #[.int .i64 vr,vs,vt],vh,.int .i64 (k:Int)] w (IntsPost w0.heap.size (stD C.sts H (k:Int)) w):=by
  obtain ⟨i0,hi,hz0,hz1,hz2⟩:=info_parts Tryz.info3
  have HI:=Lib.hid hi
  have HZ0:=Lib.hid hz0
  have HZ1:=Lib.hid hz1
  have HZ2:=Lib.hid hz2
  clear hi hz0 hz1 hz2
  have HH:=Lib.hid hH0
  have HBZ:=Lib.hid hb0
  obtain ⟨hA,hcap,rfl,hhcap⟩:=RowsAt.slice hH0
  by_cases hz:histAt H (k:Int)=0
  · have HR:=Lib.hid (show stD C.sts H (k:Int)=(stAt C.sts (k:Int)).ini by unfold stD; rw [if_neg (by rw [hz]; simp)])
    obtain ⟨b,o,scap,vi,ve,vx,rfl,hcc,hbl0,hst0,hhas⟩:=hC0.st hk
    have HHAS:=Lib.hid hhas
    obtain ⟨iA,icap,eA,ecap,xA,xcap,rfl,rfl,rfl⟩:=hhas.slices
    have hbl:=Nat.lt_of_lt_of_le hbl0 hb0.size
    have HB1:=Lib.hid (below_box w (chBox vr (.slice (some ⟨b,o,none⟩) C.sts.length scap) vt))
    have hst:=(hst0.below hb0 hbl0).below HB1.out hbl
    obtain ⟨c0,c1,c2,c3,c4⟩:=hst
    have FIN:Hid (IntsPost w0.heap.size (stD C.sts H (k:Int)) w (.returned (.slice iA (stAt C.sts (k:Int)).ini.length icap)) (w.alloc (chBox vr (.slice (some ⟨b,o,none⟩) C.sts.length scap) vt))):=Lib.hid ⟨HB1.out,_,rfl,by rw [HR.out]; exact ((LiAt.of_list (K:=fun b=>b < w0.heap.size ∨ w.heap.size≤b) HHAS.out.1 (fun b h=>.inl h)).below HBZ.out).below HB1.out⟩
    by_cases hkl:k < H.length
    · obtain ⟨hb,ho,hcap',hv,_,hbl',hc,_⟩:=HH.out.at hkl
      injection hv with e1 e2 e3
      subst e1; subst e3
      rw [hz] at hc
      have hc1:=(HB1.out.cell (p:=⟨hb,ho+k,none⟩) (Nat.lt_of_lt_of_le hbl' hb0.size)).trans ((hb0.cell (p:=⟨hb,ho+k,none⟩) hbl').trans hc)
      have hcmp:decide ((H.length:Int)≤(k:Int))=false:=by simp; omega
      generalize (stAt C.sts (k:Int)).ini.length=il at *
      clear hb0 hC0 hH0 hst0 hhas hz hc
      go_enter Tryz.func35,Tryz.ntmps35
      go_wp2_with fail
      go_ret
      exact FIN.out
    · have hcmp:decide ((H.length:Int)≤(k:Int))=true:=by simp; omega
      generalize (stAt C.sts (k:Int)).ini.length=il at *
      clear hb0 hC0 hH0 hst0 hhas hz
      go_enter Tryz.func35,Tryz.ntmps35
      go_wp2_with fail
      go_ret
      exact FIN.out
  · have HR:=Lib.hid (show stD C.sts H (k:Int)=membU (bitN (histAt H (k:Int))) 32 by unfold stD; rw [if_pos hz])
    have hkl:k < H.length:=by
      rcases Nat.lt_or_ge k H.length with h | h
      · exact h
      · exact absurd (by unfold histAt; simp [List.getD,List.getElem?_eq_none h]) hz
    obtain ⟨hb,ho,hcap',hv,_,hbl',hc,hlt'⟩:=HH.out.at hkl
    injection hv with e1 e2 e3
    subst e1; subst e3
    obtain ⟨sA,scap,rfl,_⟩:=RowsAt.slice hC0.1
    have HB1:=Lib.hid (below_box w (chBox vr (.slice sA C.sts.length scap) vt))
    have hblw:=Nat.lt_of_lt_of_le hbl' hb0.size
    have HC1:Hid (∀ W,Below w.heap.size w W→W.cell? ⟨hb,ho+k,none⟩=some (.int .u32 (histAt H (k:Int):Int))):=Lib.hid (fun W h=>(h.cell (p:=⟨hb,ho+k,none⟩) hblw).trans ((HBZ.out.cell (p:=⟨hb,ho+k,none⟩) hbl').trans hc))
    generalize histAt H (k:Int)=h at *
    have hz2:((h:Int) == 0)=false:=beq_false_of_ne (by omega)
    have hc1:=HC1.out _ HB1.out
    have hcmp:decide ((H.length:Int)≤(k:Int))=false:=by simp; omega
    clear hb0 hC0 hH0 hz hc
    go_enter Tryz.func35,Tryz.ntmps35
    go_wp2_with fail
    go_loopw [7,8] (fun v i wr=>∃ (m:Nat),m≤32∧i=.int .i64 (m:Int)∧Below (w.alloc (chBox vr (.slice sA C.sts.length scap) vt)).heap.size (w.alloc (chBox vr (.slice sA C.sts.length scap) vt)) wr∧Hid (wr.ownsRow (w.heap.size+1) 3 1 v (membU (bitN h) m).length (intVals (membU (bitN h) m)))) (fun _ i _=>32 - (intOf i).toNat)
    case atStart=>exact ⟨0,Nat.zero_le _,rfl,Below.refl _ _,Lib.hid (World.ownsRow_nil _ _ _ _)⟩
    case round =>
      clear hc1
      obtain ⟨m,hm,rfl,hb1,hown⟩:=hrel
      obtain ⟨wo,rfl⟩:∃ wo:World,wo=wr:=⟨_,rfl⟩
      have HB:=Lib.hid hb1
      have hc1:=HC1.out wo (below_boxed hb1)
      have hbs:w.heap.size+1≤wo.heap.size:=by have:=hb1.size; simpa using this
      have HSUC:=Lib.hid (membU_succ (bitN h) m)
      have hkl2:=membU_len (bitN h) m
      have HHAS:=Lib.hid (hasBit_any h m hlt' (by omega) wo)
      clear hb1
      by_cases hlt:m < 32
      · cases hbit:bitN h m with
        | true =>
          have hd:decide (h / 2 ^ m % 2=1)=true:=hbit
          rw [hd] at HHAS
          have HBIT:=Lib.hid hbit
          clear hbit hd
          go_wp2_with fail
          refine HHAS.out.mono ?_
          rintro e w1 ⟨rfl,rfl⟩
          go_wp2_with (at_builtin; refine wpList_append_own_at _ rfl _ _ 36 rfl (w.heap.size+1) 3 i0 (.int .i64 0) 1 8 Tryz.underlying36 HI.out HZ0.out HZ1.out HZ2.out rfl (by decide) _ _ _ rfl (hown.out.alloc _) ⟨wo.heap.size,0,none⟩ 1 1 [.int .i64 (m:Int)] rfl rfl ?c1 ?c2 ?c3 ?c4 ?c5 ?_)
          case c1=>exact new_val _ _ _ _ (by simp)
          case c2=>exact int_one _
          case c3=>unfold maxLen; omega
          case c4=>omega
          case c5=>simp; omega
          intro v' w2 hown' hgrow _ _
          have HG:=Lib.hid (Below.grown (HB.out.alloc HB.out.size _) hgrow (by simp; omega) (fun g hg=>by have:=(hown.out.lt g hg).1; simpa using this))
          have HO':=Lib.hid hown'
          clear hown' hgrow
          go_wp2
          go_roundw
          case rel=>exact ⟨m+1,by omega,by go_num,HG.out,Lib.hid (by rw [HSUC.out,if_pos HBIT.out,intVals_snoc]; simpa using HO'.out)⟩
          case measure=>simp [intOf]; omega
        | false =>
          have hd:decide (h / 2 ^ m % 2=1)=false:=hbit
          rw [hd] at HHAS
          have HBIT:=Lib.hid hbit
          clear hbit hd
          go_wp2_with fail
          refine HHAS.out.mono ?_
          rintro e w1 ⟨rfl,rfl⟩
          go_wp2_with fail
          go_roundw
          case rel=>exact ⟨m+1,by omega,by go_num,HB.out,Lib.hid (by rw [HSUC.out,if_neg (by rw [HBIT.out]; simp),List.append_nil]; exact hown.out)⟩
          case measure=>simp [intOf]; omega
      · obtain rfl:m=32:=by omega
        go_wp2_with fail
        go_ret
        exact ⟨below_boxed HB.out,_,rfl,by rw [HR.out]; exact LiAt.of_own hown.out fun b hb=>.inr (by omega)⟩
def dnF (S:List St) (s:Int):Nat→List Int
  | 0=>[]
  | m+1=>(if cIn S s (m:Int)=true then [(m:Int)] else []) ++ dnF S s m
theorem dn_skip (S:List St) (s:Int) (a:Nat):∀ m:Nat,a≤m→(∀ y:Nat,a≤y→y < m→cIn S s (y:Int)=false)→dnF S s m=dnF S s a
  | 0, h, _ => by obtain rfl : a = 0 := by omega
                  rfl
  | m+1,h,hy=>by
    by_cases he:a=m+1
    · rw [he]
    · rw [dnF,if_neg (by rw [hy m (by omega) (by omega)]; simp),List.nil_append]
      exact dn_skip S s a m (by omega) fun y h1 h2=>hy y h1 (by omega)
theorem dn_cong (S:List St) (s s':Int):∀ m:Nat,(∀ y:Nat,y < m→cIn S s (y:Int)=cIn S s' (y:Int))→dnF S s m=dnF S s' m
  | 0,_=>rfl
  | m+1,h=>by rw [dnF,dnF,h m (by omega),dn_cong S s s' m fun y hy=>h y (by omega)]
theorem dn_ups (S:List St):∀ (n:Nat) (s:Int),s.toNat≤n→dnF S s s.toNat=ups S s
  | n,s,hn=>by
    unfold ups
    rw [upsF]
    by_cases hp:cUp S s < 0
    · rw [if_pos hp,dn_skip S s 0 _ (Nat.zero_le _) fun y _ _=>by rw [cIn_up,if_pos hp]]
      rfl
    · rw [if_neg hp]
      obtain ⟨p1,p2,p3⟩:=cUp_pos (S:=S) (s:=s) (by omega)
      obtain ⟨q,hq⟩:∃ q:Nat,cUp S s=(q:Int):=⟨(cUp S s).toNat,by omega⟩
      have hqs:q+1≤s.toNat:=by omega
      rw [hq]
      rw [dn_skip S s (q+1) _ hqs fun y h1 h2=>by
        rw [cIn_up,hq,if_neg (by omega),if_neg (by omega),Bool.eq_false_iff]
        intro hc
        have:=cIn_range hc
        omega]
      rw [dnF,if_pos (by rw [cIn_up,hq,if_neg (by omega),if_pos rfl])]
      rw [dn_cong S s (q:Int) q fun y hy=>by rw [cIn_up S s,hq,if_neg (by omega),if_neg (by omega)]]
      cases n with
      | zero=>omega
      | succ n =>
        have ih:=dn_ups S n (q:Int) (by omega)
        rw [show ((q:Int)).toNat=q by omega] at ih
        rw [ih]
        unfold ups
        rw [upsF_fuel S s.toNat ((q:Int).toNat+1) (cUp S (q:Int)) (by rcases cUp_le S (q:Int) with h | h <;> omega) (by rcases cUp_le S (q:Int) with h | h <;> omega)]
        rfl
set_option maxHeartbeats 2000000 in
set_option maxRecDepth 100000 in
theorem rups_any (vr:Int) (vs vt:Value) (C:Ch) (k:Nat) (w:World) (hC:ChHas w vs vt C) (hl:C.sts.length≤1000) (hk:k < C.sts.length) :
    Calls Tryz.prog 36 #[.agg #[.int .i64 vr,vs,vt],.int .i64 (k:Int)] w (KPost (ups C.sts (k:Int)) w):=by
  obtain ⟨i0,hi,hz0,hz1,hz2⟩:=info_parts Tryz.info3
  have HI:=Lib.hid hi
  have HZ0:=Lib.hid hz0
  have HZ1:=Lib.hid hz1
  have HZ2:=Lib.hid hz2
  clear hi hz0 hz1 hz2
  have HIN:=Lib.hid (fun (W:World) (h:Below (w.alloc (chBox vr vs vt)).heap.size (w.alloc (chBox vr vs vt)) W) (b:Int)=>rIn_any vr b vs vt C (by unfold Short; omega) _ (k:Int) W (Nat.le_refl _) (hC.below (below_boxed h)))
  have HR:=Lib.hid (show ups C.sts (k:Int)=dnF C.sts (k:Int) k from (dn_ups C.sts _ (k:Int) (Nat.le_refl _)).symm)
  generalize ups C.sts (k:Int)=R at *
  have hsh:∀ m,(dnF C.sts (k:Int) m).length≤m:=by
    intro m
    induction m with
    | zero=>simp [dnF]
    | succ m ih=>rw [dnF,List.length_append]; split <;> simp <;> omega
  have HSH:=Lib.hid hsh
  clear hC hsh
  go_enter Tryz.func36,Tryz.ntmps36
  go_wp2_with fail
  go_loopw [5,6] (fun v p wr=>∃ (m:Nat) (done:List Int),m≤k∧done.length+m≤k∧p=.int .i64 ((m:Int) - 1)∧Hid (R=done ++ dnF C.sts (k:Int) m)∧Below (w.alloc (chBox vr vs vt)).heap.size (w.alloc (chBox vr vs vt)) wr∧Hid (wr.ownsRow (w.heap.size+1) 3 1 v done.length (intVals done))) (fun _ p _=>(intOf p+1).toNat)
  case atStart=>exact ⟨k,[],Nat.le_refl _,by simp,by go_num,HR,Below.refl _ _,Lib.hid (World.ownsRow_nil _ _ _ _)⟩
  case round =>
    clear HR
    obtain ⟨m,done,hm,hdl,rfl,HR,hb,hown⟩:=hrel
    obtain ⟨wo,rfl⟩:∃ wo:World,wo=wr:=⟨_,rfl⟩
    obtain ⟨x0,x1,x2⟩:=box_later hb
    have HB:=Lib.hid hb
    clear hb
    by_cases h0:m=0
    · subst h0
      have hR:=HR.out
      rw [dnF,List.append_nil] at hR
      have HRR:=Lib.hid hR
      clear hR
      go_wp2_with fail
      go_ret
      exact ⟨below_boxed HB.out,_,rfl,by rw [HRR.out]; exact own_lower hown.out (by omega)⟩
    · obtain ⟨j,rfl⟩:∃ j,m=j+1:=⟨m - 1,by omega⟩
      have hR:=HR.out
      rw [dnF,← List.append_assoc] at hR
      have e1:((j+1:Nat):Int) - 1=(j:Int):=by omega
      rw [e1]
      have hge:decide (0≤(j:Int))=true:=by simp
      have HO:=Lib.hid (HIN.out wo HB.out (j:Int))
      cases hc:cIn C.sts (k:Int) (j:Int) with
      | true =>
        rw [hc] at HO
        rw [hc,if_pos rfl] at hR
        have HRR:=Lib.hid hR
        clear hR hc
        go_wp2_with fail
        refine HO.out.mono ?_
        rintro e w1 ⟨rfl,hb1⟩
        have HB1:=Lib.hid (HB.out.trans (hb1.mono HB.out.size))
        have HOW:=Lib.hid (own_below hown.out hb1)
        have hbs:w.heap.size+1≤w1.heap.size:=by have:=HB1.out.size; simpa using this
        clear hb1
        go_wp2_with (at_builtin; refine wpList_append_own_at _ rfl _ _ 36 rfl (w.heap.size+1) 3 i0 (.int .i64 0) 1 8 Tryz.underlying36 HI.out HZ0.out HZ1.out HZ2.out rfl (by decide) _ _ _ rfl (HOW.out.alloc _) ⟨w1.heap.size,0,none⟩ 1 1 [.int .i64 (j:Int)] rfl rfl ?c1 ?c2 ?c3 ?c4 ?c5 ?_)
        case c1=>exact new_val _ _ _ _ (by simp)
        case c2=>exact int_one _
        case c3=>unfold maxLen; omega
        case c4=>omega
        case c5=>simp; omega
        intro v' w2 hown' hgrow _ _
        have HG:=Lib.hid (Below.grown (HB1.out.alloc HB1.out.size _) hgrow (by simp; omega) (fun g hg=>by have:=(HOW.out.lt g hg).1; simpa using this))
        have HO':=Lib.hid hown'
        clear hown' hgrow
        go_wp2
        go_roundw
        case rel=>exact ⟨j,done ++ [(j:Int)],by omega,by simp; omega,by go_num,HRR,HG.out,Lib.hid (by rw [intVals_snoc]; simpa using HO'.out)⟩
        case measure=>simp [intOf]
      | false =>
        rw [hc] at HO
        rw [hc,if_neg (by simp),List.append_nil] at hR
        have HRR:=Lib.hid hR
        clear hR hc
        go_wp2_with fail
        refine HO.out.mono ?_
        rintro e w1 ⟨rfl,hb1⟩
        have HB1:=Lib.hid (HB.out.trans (hb1.mono HB.out.size))
        have HOW:=Lib.hid (own_below hown.out hb1)
        clear hb1
        go_wp2_with fail
        go_roundw
        case rel=>exact ⟨j,done,by omega,by omega,by go_num,HRR,HB1.out,HOW⟩
        case measure=>simp [intOf]
end Go.Proofs.YtfgkcjmeiabdjaaGreatDoor
/- The contract of the document's Real: the code's and the document's rows are the same. -/
namespace Go.Proofs.YtfgkcjmeiabdjaaGreatDoor
open Go.ChangeShapes Go.WideShapes Go.ChangeAt Go.RowKit
set_option linter.unusedVariables false

def rIn (S:List St) (acc:List Int) (x:Int):List Int:=if isSt S x=false ∨ acc.contains x=true then acc else acc ++ [x]
def stM (S:List St) (H:List Nat) (s:Int):List Int:=if histB (stAt S s).kind=true then stD S H s else [s]
def rStep (S:List St) (H:List Nat) (acc:List Int) (s:Int):List Int:=if isSt S s=false then acc else (stM S H s).foldl (rIn S) acc
theorem rIn_real {S:List St} {acc:List Int} {x:Int} (h:isSt S x=true):rIn S acc x=realIn acc x:=by
  unfold rIn realIn
  rw [h]
  simp
theorem rIn_none {S:List St} {acc:List Int} {x:Int} (h:isSt S x=false):rIn S acc x=acc:=by
  unfold rIn
  rw [if_pos (.inl h)]
theorem fold_membU (S:List St) (P:Nat→Bool):∀ (m:Nat) (acc:List Int),S.length≤m→(membU P m).foldl (rIn S) acc=(memb S P).foldl realIn acc
  | m,acc,h=>by
    by_cases he:m=S.length
    · rw [he]
      show (memb S P).foldl (rIn S) acc=_
      have:∀ (L acc:List Int),(∀ x ∈ L,isSt S x=true)→L.foldl (rIn S) acc=L.foldl realIn acc:=by
        intro L
        induction L with
        | nil=>intro acc _; rfl
        | cons x L ih=>intro acc hx; rw [List.foldl_cons,List.foldl_cons,rIn_real (hx x (by simp)),ih _ fun y hy=>hx y (by simp [hy])]
      exact this _ _ fun x hx=>memb_valid hx
    · obtain ⟨q,rfl⟩:∃ q,m=q+1:=⟨m - 1,by omega⟩
      rw [membU_succ,List.foldl_append,fold_membU S P q acc (by omega)]
      split
      · have hf:isSt S (q:Int)=false:=by
          cases hc:isSt S (q:Int) with
          | false=>rfl
          | true=>have:=isSt_iff.1 hc; omega
        rw [List.foldl_cons,List.foldl_nil,rIn_none hf]
      · rfl
theorem rStep_real {S:List St} (hT:Tame S) (H:List Nat) (acc:List Int) (s:Int):rStep S H acc s=(ofS S H s).foldl realIn acc:=by
  unfold rStep ofS
  cases hs:isSt S s with
  | false=>rfl
  | true =>
    rw [if_neg (by simp),if_neg (by simp)]
    unfold stM
    cases hh:histB (stAt S s).kind with
    | false =>
      rw [if_neg (by simp),if_pos rfl,List.foldl_cons,List.foldl_nil,List.foldl_cons,List.foldl_nil,rIn_real hs]
    | true =>
      rw [if_pos rfl,if_neg (by simp)]
      unfold stD
      by_cases hz:histAt H s ≠ 0
      · rw [if_pos hz,if_pos hz,fold_membU S _ 32 acc (by have:=hT.len; omega)]
      · rw [if_neg hz,if_neg hz]
        obtain ⟨t,h1,h2,_⟩:=hT.ini5 s hs hh
        rw [h1,List.foldl_cons,List.foldl_nil,List.foldl_cons,List.foldl_nil,rIn_real h2]
theorem real_same {S:List St} (hT:Tame S) (H:List Nat) (l:List Int):realS S H l=l.foldl (rStep S H) []:=by
  unfold realS
  congr 1
  funext acc s
  exact (rStep_real hT H acc s).symm
theorem stM_len {S:List St} {H:List Nat} (hT:Tame S) {s:Int} (hs:isSt S s=true):(stM S H s).length≤32:=by
  unfold stM
  split
  · rename_i hh
    unfold stD
    split
    · exact membU_len _ _
    · obtain ⟨t,h1,_⟩:=hT.ini5 s hs hh
      rw [h1]; simp
  · simp
theorem take_has (acc:List Int) (x:Int) {j:Nat} (h:j < acc.length):(acc.take (j+1)).contains x=((acc.take j).contains x || acc[j] == x):=by
  rw [List.take_succ_eq_append_getElem h,Bool.eq_iff_iff]
  simp only [List.contains_iff_mem,List.mem_append,List.mem_singleton,Bool.or_eq_true,beq_iff_eq]
  constructor
  · rintro (h | h)
    · exact .inl h
    · exact .inr h.symm
  · rintro (h | h)
    · exact .inl h
    · exact .inr h.symm
set_option maxHeartbeats 8000000 in
set_option maxRecDepth 100000 in
theorem rreal_any (vr:Int) (vs vt vh vl:Value) (C:Ch) (H:List Nat) (l:List Int) (w:World) (hC:ChHas w vs vt C) (hH:HistAt w vh H) (hv:ListAt w vl l) (hta:Tame C.sts) (hHl:H.length≤1000) (hll:l.length≤1000) :
    Calls Tryz.prog 72 #[.agg #[.int .i64 vr,vs,vt],vh,vl] w (KPost (realS C.sts H l) w):=by
  obtain ⟨i0,hi,hz0,hz1,hz2⟩:=info_parts Tryz.info3
  have HI:=Lib.hid hi
  have HZ0:=Lib.hid hz0
  have HZ1:=Lib.hid hz1
  have HZ2:=Lib.hid hz2
  clear hi hz0 hz1 hz2
  rw [real_same hta]
  have hlen:=hta.len
  have HC:=Lib.hid hC
  have HH:=Lib.hid hH
  have HHL:=Lib.hid hHl
  obtain ⟨sA,scap,rfl,hscap⟩:=RowsAt.slice hC.1
  obtain ⟨lA,lcap,rfl,hlcap,he⟩:=hv
  have HE:=Lib.hid he
  have HSML:=Lib.hid (fun s (h:isSt C.sts s=true)=>stM_len (H:=H) hta h)
  obtain ⟨R,hRR⟩:∃ R,R=l.foldl (rStep C.sts H) []:=⟨_,rfl⟩
  rw [← hRR]
  have HR:=Lib.hid hRR
  clear hC hH he hRR hta
  go_enter Tryz.func72,Tryz.ntmps72
  go_wp2_with fail
  go_loopw [7,8] (fun v i wr=>∃ (k:Nat) (acc:List Int),k≤l.length∧acc.length≤k * 32∧i=.int .i64 (k:Int)∧Hid (R=(l.drop k).foldl (rStep C.sts H) acc)∧Hid (Below (w.alloc (chBox vr (.slice sA C.sts.length scap) vt)).heap.size (w.alloc (chBox vr (.slice sA C.sts.length scap) vt)) wr)∧Hid (wr.ownsRow (w.heap.size+1) 3 1 v acc.length (intVals acc))) (fun _ i _=>l.length - (intOf i).toNat)
  case atStart=>exact ⟨0,[],Nat.zero_le _,Nat.zero_le _,rfl,HR,Lib.hid (Below.refl _ _),Lib.hid (World.ownsRow_nil _ _ _ _)⟩
  case round =>
    clear HR
    obtain ⟨k,acc,hk,hal,rfl,HR,HB,hown⟩:=hrel
    obtain ⟨wo,rfl⟩:∃ wo:World,wo=wr:=⟨_,rfl⟩
    obtain ⟨x0,x1,x2⟩:=box_later HB.out
    by_cases hlt:k < l.length
    · obtain ⟨b,o,rfl,hbl,hc⟩:=HE.out k _ (List.getElem?_eq_getElem hlt)
      have HLC:Hid (∀ W,Below w.heap.size w W→W.cell? ⟨b,o+k,none⟩=some (.int .i64 l[k])):=Lib.hid (fun W hW=>by have:=IntAt.keeps w W b _ _ hW hbl hc; unfold IntAt at this; rwa [Nat.mul_one] at this)
      have HRK:=Lib.hid (HR.out.trans (drop_fold _ l k hlt acc))
      generalize l[k]=s at *
      clear hc HR
      cases his:isSt C.sts s with
      | false =>
        have HIS:=Lib.hid his
        have HRS:Hid (rStep C.sts H acc s=acc):=Lib.hid (by unfold rStep; rw [if_pos his])
        clear his
        go_wp2_with fail
        clear x0 x1 x2
        refine anyD_start (fun W=>(W.cell? ⟨w.heap.size,0,none⟩=some (.int .i64 vr)∧W.cell? ⟨w.heap.size,1,none⟩=some (.slice sA C.sts.length scap)∧W.cell? ⟨w.heap.size,2,none⟩=some vt)∧W.cell? ⟨b,o+k,none⟩=some (.int .i64 s)) (fun i=>[].contains i) (by kernel_rfl) ?_
        have HBD:=Lib.hid HB.out.drew
        have HSD:Hid (((wo).drew.cell? ⟨w.heap.size,0,none⟩=some (.int .i64 vr)∧(wo).drew.cell? ⟨w.heap.size,1,none⟩=some (.slice sA C.sts.length scap)∧(wo).drew.cell? ⟨w.heap.size,2,none⟩=some vt)∧(wo).drew.cell? ⟨b,o+k,none⟩=some (.int .i64 s)):=Lib.hid ⟨box_later HBD.out,HLC.out _ (below_boxed HBD.out)⟩
        refine anyD_l 0 (.agg #[.int .i64 vr,.slice sA C.sts.length scap,vt]) (HSD.out) ?_
        try simp only [Act.put,sx]
        refine anyD_t 1 (.slice (some ⟨b,o,none⟩) l.length lcap) ?_
        try simp only [Act.put,sx]
        refine anyD_t 2 (.int .i64 (k:Int)) ?_
        try simp only [Act.put,sx]
        refine anyD_t 3 (.pointer (some ⟨b,o+k,none⟩)) ?_
        try simp only [Act.put,sx]
        refine anyD_l 4 (.int .i64 s) (HSD.out) ?_
        try simp only [Act.put,sx]
        refine anyD_one (i:=5) rfl rfl (by kernel_rfl) (fun K HK=>?_)
        go_simp
        refine (there_any vr s _ vt C _ (HC.out.below (below_boxed HBD.out)) (by omega)).mono ?_
        rintro e w1 ⟨rfl,hb1⟩
        have HB1:=Lib.hid (HBD.out.trans (hb1.mono HBD.out.size))
        have HOW1:=Lib.hid (own_below (own_below hown.out (Below.refl _ wo).drew) hb1)
        rw [HIS.out]
        clear hb1
        go_simp
        refine HK.out _ _ (fun _ hS=>⟨box_later HB1.out,HLC.out _ (below_boxed HB1.out)⟩) ?_
        clear HK K
        try simp only [Act.put,sx]
        refine anyD_t 6 (.bool true) ?_
        try simp only [Act.put,sx]
        refine anyD_done (by kernel_rfl) ?_
        rw [HRS.out] at HRK
        go_wp2_with fail
        go_roundw
        case rel=>exact ⟨k+1,acc,by omega,by omega,by go_num,HRK,HB1,HOW1⟩
        case measure=>simp [intOf]; omega
      | true =>
        have HIS:=Lib.hid his
        have HML:=Lib.hid (HSML.out s his)
        have HRS:Hid (rStep C.sts H acc s=(stM C.sts H s).foldl (rIn C.sts) acc):=Lib.hid (by unfold rStep; rw [if_neg (by rw [his]; simp)])
        obtain ⟨sk,rfl,hsk⟩:=isSt_nat his
        clear his
        go_wp2_with fail
        clear x0 x1 x2
        refine anyD_start (fun W=>(W.cell? ⟨w.heap.size,0,none⟩=some (.int .i64 vr)∧W.cell? ⟨w.heap.size,1,none⟩=some (.slice sA C.sts.length scap)∧W.cell? ⟨w.heap.size,2,none⟩=some vt)∧W.cell? ⟨b,o+k,none⟩=some (.int .i64 (sk:Int))) (fun i=>[].contains i) (by kernel_rfl) ?_
        have HBD:=Lib.hid HB.out.drew
        have HSD:Hid (((wo).drew.cell? ⟨w.heap.size,0,none⟩=some (.int .i64 vr)∧(wo).drew.cell? ⟨w.heap.size,1,none⟩=some (.slice sA C.sts.length scap)∧(wo).drew.cell? ⟨w.heap.size,2,none⟩=some vt)∧(wo).drew.cell? ⟨b,o+k,none⟩=some (.int .i64 (sk:Int))):=Lib.hid ⟨box_later HBD.out,HLC.out _ (below_boxed HBD.out)⟩
        refine anyD_l 0 (.agg #[.int .i64 vr,.slice sA C.sts.length scap,vt]) (HSD.out) ?_
        try simp only [Act.put,sx]
        refine anyD_t 1 (.slice (some ⟨b,o,none⟩) l.length lcap) ?_
        try simp only [Act.put,sx]
        refine anyD_t 2 (.int .i64 (k:Int)) ?_
        try simp only [Act.put,sx]
        refine anyD_t 3 (.pointer (some ⟨b,o+k,none⟩)) ?_
        try simp only [Act.put,sx]
        refine anyD_l 4 (.int .i64 (sk:Int)) (HSD.out) ?_
        try simp only [Act.put,sx]
        refine anyD_one (i:=5) rfl rfl (by kernel_rfl) (fun K HK=>?_)
        go_simp
        refine (there_any vr (sk:Int) _ vt C _ (HC.out.below (below_boxed HBD.out)) (by omega)).mono ?_
        rintro e w1 ⟨rfl,hb1⟩
        have HB1:=Lib.hid (HBD.out.trans (hb1.mono HBD.out.size))
        have HOW1:=Lib.hid (own_below (own_below hown.out (Below.refl _ wo).drew) hb1)
        rw [HIS.out]
        clear hb1
        go_simp
        refine HK.out _ _ (fun _ hS=>⟨box_later HB1.out,HLC.out _ (below_boxed HB1.out)⟩) ?_
        clear HK K
        try simp only [Act.put,sx]
        refine anyD_t 6 (.bool false) ?_
        try simp only [Act.put,sx]
        refine anyD_done (by kernel_rfl) ?_
        have d1:=HLC.out _ (below_boxed HB1.out)
        have HBN:=Lib.hid (HB1.out.alloc HB1.out.size (.cells #[.int .i64 (sk:Int)] 3))
        have HOWN:=Lib.hid (HOW1.out.alloc (.cells #[.int .i64 (sk:Int)] 3))
        have HM1:Hid (LiAt (fun b=>some b ≠ u7.ownBlock) (w1.alloc (.cells #[.int .i64 (sk:Int)] 3)) (.slice (some ⟨w1.heap.size,0,none⟩) 1 1) [(sk:Int)]):=Lib.hid ((LiAt.of_list' (n:=0) (m:=w1.heap.size) (one_list _ (Blk.new w1 3 _)) (Nat.le_refl _)).mono fun b _ hb he=>by
          have:=HOW1.out.lt b he.symm
          omega)
        cases hh:histB (stAt C.sts (sk:Int)).kind with
        | false =>
          have HHI:=Lib.hid hh
          have hms:stM C.sts H (sk:Int)=[(sk:Int)]:=by unfold stM; rw [if_neg (by rw [hh]; simp)]
          rw [← hms] at HM1
          clear hh hms
          go_wp2_with fail
          clear d1
          refine anyD_start (fun W=>(W.cell? ⟨w.heap.size,0,none⟩=some (.int .i64 vr)∧W.cell? ⟨w.heap.size,1,none⟩=some (.slice sA C.sts.length scap)∧W.cell? ⟨w.heap.size,2,none⟩=some vt)∧W.cell? ⟨b,o+k,none⟩=some (.int .i64 (sk:Int))) (fun i=>[].contains i) (by kernel_rfl) ?_
          have HBD2:=Lib.hid HBN.out.drew
          have HSD2:Hid (((w1.alloc (.cells #[.int .i64 (sk:Int)] 3)).drew.cell? ⟨w.heap.size,0,none⟩=some (.int .i64 vr)∧(w1.alloc (.cells #[.int .i64 (sk:Int)] 3)).drew.cell? ⟨w.heap.size,1,none⟩=some (.slice sA C.sts.length scap)∧(w1.alloc (.cells #[.int .i64 (sk:Int)] 3)).drew.cell? ⟨w.heap.size,2,none⟩=some vt)∧(w1.alloc (.cells #[.int .i64 (sk:Int)] 3)).drew.cell? ⟨b,o+k,none⟩=some (.int .i64 (sk:Int))):=Lib.hid ⟨box_later HBD2.out,HLC.out _ (below_boxed HBD2.out)⟩
          refine anyD_l 0 (.agg #[.int .i64 vr,.slice sA C.sts.length scap,vt]) (HSD2.out) ?_
          try simp only [Act.put,sx]
          refine anyD_t 1 (.slice (some ⟨b,o,none⟩) l.length lcap) ?_
          try simp only [Act.put,sx]
          refine anyD_t 2 (.int .i64 (k:Int)) ?_
          try simp only [Act.put,sx]
          refine anyD_t 3 (.pointer (some ⟨b,o+k,none⟩)) ?_
          try simp only [Act.put,sx]
          refine anyD_l 4 (.int .i64 (sk:Int)) (HSD2.out) ?_
          try simp only [Act.put,sx]
          refine anyD_one (i:=5) rfl rfl (by kernel_rfl) (fun K HK=>?_)
          go_simp
          refine (past_any vr _ vt C sk _ (HC.out.below (below_boxed HBD2.out)) (by omega) hsk).mono ?_
          rintro e w3 ⟨rfl,hb3⟩
          have HB3:=Lib.hid (HBD2.out.trans (hb3.mono HBD2.out.size))
          have HOW3:=Lib.hid (own_below (own_below HOWN.out (Below.refl _ (w1.alloc (.cells #[.int .i64 (sk:Int)] 3))).drew) hb3)
          have HM3:=Lib.hid ((HM1.out.below (Below.refl _ (w1.alloc (.cells #[.int .i64 (sk:Int)] 3))).drew).below hb3)
          rw [HHI.out]
          clear hb3
          go_simp
          refine HK.out _ _ (fun _ hS=>⟨box_later HB3.out,HLC.out _ (below_boxed HB3.out)⟩) ?_
          clear HK K
          try simp only [Act.put,sx]
          refine anyD_t 6 (.bool false) ?_
          try simp only [Act.put,sx]
          refine anyD_done (by kernel_rfl) ?_
          go_wp2_with fail
          generalize stM C.sts H (sk:Int)=M at *
          generalize Value.slice (some ⟨w1.heap.size,0,none⟩) 1 1=SL at *
          obtain ⟨mA,mcap,rfl,hmc⟩:=RowsAt.slice HM3.out
          have HMM:=HM3
          have HBB:=HB3
          have HOO:=HOW3
          have HR1:Hid (R=(l.drop (k+1)).foldl (rStep C.sts H) (M.foldl (rIn C.sts) acc)):=Lib.hid (by rw [HRK.out,HRS.out])
          have hml:M.length≤32:=HML.out
          clear HM1 HBD HBD2 HSD HSD2 hown HB
          go_wp2_with fail
          go_loopw [7,11] (fun v i wr=>∃ (m:Nat) (acc':List Int),m≤M.length∧acc'.length≤k * 32+m∧i=.int .i64 (m:Int)∧Hid (R=(l.drop (k+1)).foldl (rStep C.sts H) ((M.drop m).foldl (rIn C.sts) acc'))∧Hid (Below (w.alloc (chBox vr (.slice sA C.sts.length scap) vt)).heap.size (w.alloc (chBox vr (.slice sA C.sts.length scap) vt)) wr)∧Hid (wr.ownsRow (w.heap.size+1) 3 1 v acc'.length (intVals acc'))∧Hid (LiAt (fun b=>some b ≠ v.ownBlock) wr (.slice mA M.length mcap) M)) (fun _ i _=>M.length - (intOf i).toNat)
          case atStart=>exact ⟨0,acc,Nat.zero_le _,hal,rfl,HR1,HBB,HOO,HMM⟩
          case round =>
            clear HR1 HBB HOO HMM HRK HRS hal HOW1 HB1
            obtain ⟨m,acc',hm,hal,rfl,HR,HB,hown,HM⟩:=hrel
            obtain ⟨wp,rfl⟩:∃ wp:World,wp=wr:=⟨_,rfl⟩
            obtain ⟨x0,x1,x2⟩:=box_later HB.out
            by_cases hlt2:m < M.length
            · obtain ⟨oA,ocap,rfl⟩:=own_form hown.out
              obtain ⟨mb,mo,hmA,hmbl,hmc0,hmne⟩:=(let ⟨_,_,h1,_,h3⟩:=HM.out; by injection h1 with e1 e2 e3; subst e1; exact h3 m _ (List.getElem?_eq_getElem hlt2):∃ b o,mA=some ⟨b,o,none⟩∧b < wp.heap.size∧(IntAt wp b (o+m * 1) M[m])∧_)
              subst hmA
              have HDX:Hid (wp.drew.cell? ⟨mb,mo+m,none⟩=some (.int .i64 M[m])):=Lib.hid (by have:=hmc0; unfold IntAt at this; rw [Nat.mul_one] at this; exact this)
              have HRM:=Lib.hid (HR.out.trans (congrArg (fun z=>(l.drop (k+1)).foldl (rStep C.sts H) z) (drop_fold _ M m hlt2 acc')))
              have HMBL:Hid (mb < wp.drew.heap.size):=Lib.hid hmbl
              generalize M[m]=x at *
              clear hmc0 hmne HR
              cases hisx:isSt C.sts x with
              | false =>
                have HISX:=Lib.hid hisx
                clear hisx
                go_wp2_with fail
                clear x0 x1 x2
                refine anyD_start (fun W=>(W.cell? ⟨w.heap.size,0,none⟩=some (.int .i64 vr)∧W.cell? ⟨w.heap.size,1,none⟩=some (.slice sA C.sts.length scap)∧W.cell? ⟨w.heap.size,2,none⟩=some vt)∧W.cell? ⟨mb,mo+m,none⟩=some (.int .i64 x)) (fun i=>[].contains i) (by kernel_rfl) ?_
                have HBD5:=Lib.hid HB.out.drew
                have HSD5:Hid ((wp.drew.cell? ⟨w.heap.size,0,none⟩=some (.int .i64 vr)∧wp.drew.cell? ⟨w.heap.size,1,none⟩=some (.slice sA C.sts.length scap)∧wp.drew.cell? ⟨w.heap.size,2,none⟩=some vt)∧wp.drew.cell? ⟨mb,mo+m,none⟩=some (.int .i64 x)):=Lib.hid ⟨box_later HBD5.out,HDX.out⟩
                refine anyD_l 0 (.agg #[.int .i64 vr,.slice sA C.sts.length scap,vt]) (HSD5.out) ?_
                try simp only [Act.put,sx]
                refine anyD_t 1 (.slice (some ⟨mb,mo,none⟩) M.length mcap) ?_
                try simp only [Act.put,sx]
                refine anyD_t 2 (.int .i64 (m:Int)) ?_
                try simp only [Act.put,sx]
                refine anyD_t 3 (.pointer (some ⟨mb,mo+m,none⟩)) ?_
                try simp only [Act.put,sx]
                refine anyD_l 4 (.int .i64 x) (HSD5.out) ?_
                try simp only [Act.put,sx]
                refine anyD_one (i:=5) rfl rfl (by kernel_rfl) (fun K HK=>?_)
                go_simp
                refine (there_any vr x _ vt C _ (HC.out.below (below_boxed HBD5.out)) (by omega)).mono ?_
                rintro e w6 ⟨rfl,hb6⟩
                have HB6:=Lib.hid (HBD5.out.trans (hb6.mono HBD5.out.size))
                have HOW6:=Lib.hid (own_below (own_below hown.out (Below.refl _ wp).drew) hb6)
                have HM6:=Lib.hid ((HM.out.below (Below.refl _ wp).drew).below hb6)
                have HDX6:=Lib.hid ((hb6.cell (p:=⟨mb,mo+m,none⟩) HMBL.out).trans HDX.out)
                have HS6:Hid (wp.drew.heap.size≤w6.heap.size):=Lib.hid hb6.size
                rw [HISX.out]
                clear hb6
                go_simp
                refine HK.out _ _ (fun _ hS=>⟨box_later HB6.out,HDX6.out⟩) ?_
                clear HK K
                try simp only [Act.put,sx]
                refine anyD_t 6 (.bool true) ?_
                try simp only [Act.put,sx]
                refine anyD_t 7 (.bool true) ?_
                try simp only [Act.put,sx]
                refine anyD_done (by kernel_rfl) ?_
                go_wp2_with fail
                go_loopw [12,13] (fun mv jv wr=>∃ (j:Nat),j≤acc'.length∧jv=.int .i64 (j:Int)∧mv=.bool (true)∧Hid (Below w6.heap.size w6 wr)) (fun _ jv _=>acc'.length - (intOf jv).toNat)
                case atStart=>exact ⟨0,Nat.zero_le _,rfl,rfl,Lib.hid (Below.refl _ _)⟩
                case round =>
                  obtain ⟨j,hj,rfl,rfl,HBW⟩:=hrel
                  obtain ⟨wq,rfl⟩:∃ wq:World,wq=wr:=⟨_,rfl⟩
                  by_cases hlt3:j < acc'.length
                  · go_wp2_with fail
                    go_quiet (fail)
                    go_wp2
                    go_roundw
                    case rel=>exact ⟨j+1,by omega,by go_num,rfl,Lib.hid (below_drewN HBW.out _)⟩
                    case measure=>simp [intOf]; omega
                  · obtain rfl:j=acc'.length:=by omega
                    go_wp2_with fail
                    go_roundw
                    case rel=>exact ⟨m+1,acc',by omega,by omega,by go_num,Lib.hid (by rw [HRM.out,rIn_none HISX.out]),Lib.hid (HB6.out.trans (HBW.out.mono HB6.out.size)),Lib.hid (own_below HOW6.out HBW.out),Lib.hid (HM6.out.below HBW.out)⟩
                    case measure=>simp [intOf]; omega
              | true =>
                have HISX:=Lib.hid hisx
                clear hisx
                go_wp2_with fail
                clear x0 x1 x2
                refine anyD_start (fun W=>(W.cell? ⟨w.heap.size,0,none⟩=some (.int .i64 vr)∧W.cell? ⟨w.heap.size,1,none⟩=some (.slice sA C.sts.length scap)∧W.cell? ⟨w.heap.size,2,none⟩=some vt)∧W.cell? ⟨mb,mo+m,none⟩=some (.int .i64 x)) (fun i=>[].contains i) (by kernel_rfl) ?_
                have HBD5:=Lib.hid HB.out.drew
                have HSD5:Hid ((wp.drew.cell? ⟨w.heap.size,0,none⟩=some (.int .i64 vr)∧wp.drew.cell? ⟨w.heap.size,1,none⟩=some (.slice sA C.sts.length scap)∧wp.drew.cell? ⟨w.heap.size,2,none⟩=some vt)∧wp.drew.cell? ⟨mb,mo+m,none⟩=some (.int .i64 x)):=Lib.hid ⟨box_later HBD5.out,HDX.out⟩
                refine anyD_l 0 (.agg #[.int .i64 vr,.slice sA C.sts.length scap,vt]) (HSD5.out) ?_
                try simp only [Act.put,sx]
                refine anyD_t 1 (.slice (some ⟨mb,mo,none⟩) M.length mcap) ?_
                try simp only [Act.put,sx]
                refine anyD_t 2 (.int .i64 (m:Int)) ?_
                try simp only [Act.put,sx]
                refine anyD_t 3 (.pointer (some ⟨mb,mo+m,none⟩)) ?_
                try simp only [Act.put,sx]
                refine anyD_l 4 (.int .i64 x) (HSD5.out) ?_
                try simp only [Act.put,sx]
                refine anyD_one (i:=5) rfl rfl (by kernel_rfl) (fun K HK=>?_)
                go_simp
                refine (there_any vr x _ vt C _ (HC.out.below (below_boxed HBD5.out)) (by omega)).mono ?_
                rintro e w6 ⟨rfl,hb6⟩
                have HB6:=Lib.hid (HBD5.out.trans (hb6.mono HBD5.out.size))
                have HOW6:=Lib.hid (own_below (own_below hown.out (Below.refl _ wp).drew) hb6)
                have HM6:=Lib.hid ((HM.out.below (Below.refl _ wp).drew).below hb6)
                have HDX6:=Lib.hid ((hb6.cell (p:=⟨mb,mo+m,none⟩) HMBL.out).trans HDX.out)
                have HS6:Hid (wp.drew.heap.size≤w6.heap.size):=Lib.hid hb6.size
                rw [HISX.out]
                clear hb6
                go_simp
                refine HK.out _ _ (fun _ hS=>⟨box_later HB6.out,HDX6.out⟩) ?_
                clear HK K
                try simp only [Act.put,sx]
                refine anyD_t 6 (.bool false) ?_
                try simp only [Act.put,sx]
                refine anyD_t 7 (.bool false) ?_
                try simp only [Act.put,sx]
                refine anyD_done (by kernel_rfl) ?_
                go_wp2_with fail
                go_loopw [12,13] (fun mv jv wr=>∃ (j:Nat),j≤acc'.length∧jv=.int .i64 (j:Int)∧mv=.bool ((acc'.take j).contains x)∧Hid (Below w6.heap.size w6 wr)) (fun _ jv _=>acc'.length - (intOf jv).toNat)
                case atStart=>exact ⟨0,Nat.zero_le _,rfl,rfl,Lib.hid (Below.refl _ _)⟩
                case round =>
                  obtain ⟨j,hj,rfl,rfl,HBW⟩:=hrel
                  obtain ⟨wq,rfl⟩:∃ wq:World,wq=wr:=⟨_,rfl⟩
                  have d1:wq.cell? ⟨mb,mo+m,none⟩=some (.int .i64 x):=(HBW.out.cell (p:=⟨mb,mo+m,none⟩) (Nat.lt_of_lt_of_le HMBL.out HS6.out)).trans HDX6.out
                  by_cases hlt3:j < acc'.length
                  · have HTS:=Lib.hid (take_has acc' x hlt3)
                    obtain ⟨ob,oo,rfl,hol,hocell⟩:=(let ⟨_,_,h1,_,h3⟩:=list_of_own HOW6.out; by injection h1 with e1 e2 e3; subst e1; exact h3 j _ (List.getElem?_eq_getElem hlt3):∃ b o,oA=some ⟨b,o,none⟩∧b < w6.heap.size∧(IntAt w6 b (o+j * 1) acc'[j]))
                    have d2:wq.cell? ⟨ob,oo+j,none⟩=some (.int .i64 acc'[j]):=by have:=IntAt.keeps w6 wq ob _ _ HBW.out hol hocell; unfold IntAt at this; rwa [Nat.mul_one] at this
                    generalize acc'[j]=y at *
                    clear hocell
                    cases hmt:(acc'.take j).contains x with
                    | true =>
                      have HT1:Hid ((acc'.take (j+1)).contains x=true):=Lib.hid (by rw [HTS.out,hmt]; rfl)
                      clear hmt
                      go_wp2_with fail
                      go_quiet (fail)
                      go_wp2
                      go_roundw
                      case rel=>exact ⟨j+1,by omega,by go_num,by rw [HT1.out],Lib.hid (below_drewN HBW.out _)⟩
                      case measure=>simp [intOf]; omega
                    | false =>
                      have HT1:Hid ((acc'.take (j+1)).contains x=(y == x)):=Lib.hid (by rw [HTS.out,hmt]; rfl)
                      clear hmt
                      go_wp2_with fail
                      go_quiet (fail)
                      go_wp2
                      go_roundw
                      case rel=>exact ⟨j+1,by omega,by go_num,by rw [HT1.out],Lib.hid (below_drewN HBW.out _)⟩
                      case measure=>simp [intOf]; omega
                  · obtain rfl:j=acc'.length:=by omega
                    have htk:acc'.take acc'.length=acc':=List.take_length
                    cases hmt:acc'.contains x with
                    | true =>
                      rw [htk,hmt]
                      have HMT:=Lib.hid hmt
                      clear hmt htk
                      go_wp2_with fail
                      go_roundw
                      case rel=>exact ⟨m+1,acc',by omega,by omega,by go_num,Lib.hid (by rw [HRM.out,rIn_real HISX.out,realIn_old HMT.out]),Lib.hid (HB6.out.trans (HBW.out.mono HB6.out.size)),Lib.hid (own_below HOW6.out HBW.out),Lib.hid (HM6.out.below HBW.out)⟩
                      case measure=>simp [intOf]; omega
                    | false =>
                      rw [htk,hmt]
                      have HMT:=Lib.hid hmt
                      have HOQ:=Lib.hid (own_below HOW6.out HBW.out)
                      have HBQ:=Lib.hid (HB6.out.trans (HBW.out.mono HB6.out.size))
                      have HMQ:=Lib.hid (HM6.out.below HBW.out)
                      have hbs:w.heap.size+1≤wq.heap.size:=by have:=HBQ.out.size; simpa using this
                      clear hmt htk
                      go_wp2_with (at_builtin; refine wpList_append_own_at _ rfl _ _ 36 rfl (w.heap.size+1) 3 i0 (.int .i64 0) 1 8 Tryz.underlying36 HI.out HZ0.out HZ1.out HZ2.out rfl (by decide) _ _ _ rfl (HOQ.out.alloc _) ⟨wq.heap.size,0,none⟩ 1 1 [.int .i64 x] rfl rfl ?c1 ?c2 ?c3 ?c4 ?c5 ?_)
                      case c1=>exact new_val _ _ _ _ (by simp)
                      case c2=>exact int_one _
                      case c3=>unfold maxLen; omega
                      case c4=>omega
                      case c5=>simp; omega
                      intro v' w2 hown' hgrow _ hat
                      have HG:=Lib.hid (Below.grown (HBQ.out.alloc HBQ.out.size _) hgrow (by simp; omega) (fun g hg=>by have:=(HOQ.out.lt g hg).1; simpa using this))
                      have HO':=Lib.hid hown'
                      have HM2:Hid (LiAt (fun b=>some b ≠ v'.ownBlock) w2 (.slice (some ⟨mb,mo,none⟩) M.length mcap) M):=Lib.hid (((((HMQ.out.mono fun b hb hc=>(⟨hb,hc⟩:b < wq.heap.size∧some b ≠ _)).below (below_box wq _)).grown hgrow fun b _ hc=>hc.2).mono fun b _ hc=>by
                        rcases hat with h | h
                        · rw [h]; exact hc.2
                        · rw [h]; intro he; injection he with he; have:=hc.1; have h3:(wq.alloc (.cells #[.int .i64 x] 3)).heap.size=wq.heap.size+1:=by simp
                          omega))
                      clear hown' hgrow hat
                      go_wp2
                      go_roundw
                      case rel=>exact ⟨m+1,acc' ++ [x],by omega,by simp; omega,by go_num,Lib.hid (by rw [HRM.out,rIn_real HISX.out,realIn_new HMT.out]),HG,Lib.hid (by rw [intVals_snoc]; simpa using HO'.out),HM2⟩
                      case measure=>simp [intOf]; omega
            · obtain rfl:m=M.length:=by omega
              have hRM:=HR.out
              rw [List.drop_length,List.foldl_nil] at hRM
              have HRN:=Lib.hid hRM
              clear hRM
              go_wp2_with fail
              go_roundw
              case rel=>exact ⟨k+1,acc',by omega,by omega,by go_num,HRN,HB,hown⟩
              case measure=>simp [intOf]; omega
        | true =>
          have HHI:=Lib.hid hh
          clear hh
          go_wp2_with fail
          clear d1
          refine anyD_start (fun W=>(W.cell? ⟨w.heap.size,0,none⟩=some (.int .i64 vr)∧W.cell? ⟨w.heap.size,1,none⟩=some (.slice sA C.sts.length scap)∧W.cell? ⟨w.heap.size,2,none⟩=some vt)∧W.cell? ⟨b,o+k,none⟩=some (.int .i64 (sk:Int))) (fun i=>[].contains i) (by kernel_rfl) ?_
          have HBD2:=Lib.hid HBN.out.drew
          have HSD2:Hid (((w1.alloc (.cells #[.int .i64 (sk:Int)] 3)).drew.cell? ⟨w.heap.size,0,none⟩=some (.int .i64 vr)∧(w1.alloc (.cells #[.int .i64 (sk:Int)] 3)).drew.cell? ⟨w.heap.size,1,none⟩=some (.slice sA C.sts.length scap)∧(w1.alloc (.cells #[.int .i64 (sk:Int)] 3)).drew.cell? ⟨w.heap.size,2,none⟩=some vt)∧(w1.alloc (.cells #[.int .i64 (sk:Int)] 3)).drew.cell? ⟨b,o+k,none⟩=some (.int .i64 (sk:Int))):=Lib.hid ⟨box_later HBD2.out,HLC.out _ (below_boxed HBD2.out)⟩
          refine anyD_l 0 (.agg #[.int .i64 vr,.slice sA C.sts.length scap,vt]) (HSD2.out) ?_
          try simp only [Act.put,sx]
          refine anyD_t 1 (.slice (some ⟨b,o,none⟩) l.length lcap) ?_
          try simp only [Act.put,sx]
          refine anyD_t 2 (.int .i64 (k:Int)) ?_
          try simp only [Act.put,sx]
          refine anyD_t 3 (.pointer (some ⟨b,o+k,none⟩)) ?_
          try simp only [Act.put,sx]
          refine anyD_l 4 (.int .i64 (sk:Int)) (HSD2.out) ?_
          try simp only [Act.put,sx]
          refine anyD_one (i:=5) rfl rfl (by kernel_rfl) (fun K HK=>?_)
          go_simp
          refine (past_any vr _ vt C sk _ (HC.out.below (below_boxed HBD2.out)) (by omega) hsk).mono ?_
          rintro e w3 ⟨rfl,hb3⟩
          have HB3:=Lib.hid (HBD2.out.trans (hb3.mono HBD2.out.size))
          have HOW3:=Lib.hid (own_below (own_below HOWN.out (Below.refl _ (w1.alloc (.cells #[.int .i64 (sk:Int)] 3))).drew) hb3)
          have HM3:=Lib.hid ((HM1.out.below (Below.refl _ (w1.alloc (.cells #[.int .i64 (sk:Int)] 3))).drew).below hb3)
          rw [HHI.out]
          clear hb3
          go_simp
          refine HK.out _ _ (fun _ hS=>⟨box_later HB3.out,HLC.out _ (below_boxed HB3.out)⟩) ?_
          clear HK K
          try simp only [Act.put,sx]
          refine anyD_t 6 (.bool true) ?_
          try simp only [Act.put,sx]
          refine anyD_done (by kernel_rfl) ?_
          go_wp2_with fail
          refine anyD_start (fun W=>(W.cell? ⟨w.heap.size,0,none⟩=some (.int .i64 vr)∧W.cell? ⟨w.heap.size,1,none⟩=some (.slice sA C.sts.length scap)∧W.cell? ⟨w.heap.size,2,none⟩=some vt)∧W.cell? ⟨b,o+k,none⟩=some (.int .i64 (sk:Int))) (fun i=>[].contains i) (by kernel_rfl) ?_
          have HBD3:=Lib.hid HB3.out.drew
          have HSD3:Hid (((w3).drew.cell? ⟨w.heap.size,0,none⟩=some (.int .i64 vr)∧(w3).drew.cell? ⟨w.heap.size,1,none⟩=some (.slice sA C.sts.length scap)∧(w3).drew.cell? ⟨w.heap.size,2,none⟩=some vt)∧(w3).drew.cell? ⟨b,o+k,none⟩=some (.int .i64 (sk:Int))):=Lib.hid ⟨box_later HBD3.out,HLC.out _ (below_boxed HBD3.out)⟩
          refine anyD_l 0 (.agg #[.int .i64 vr,.slice sA C.sts.length scap,vt]) (HSD3.out) ?_
          try simp only [Act.put,sx]
          refine anyD_t 1 vh ?_
          try simp only [Act.put,sx]
          refine anyD_t 2 (.slice (some ⟨b,o,none⟩) l.length lcap) ?_
          try simp only [Act.put,sx]
          refine anyD_t 3 (.int .i64 (k:Int)) ?_
          try simp only [Act.put,sx]
          refine anyD_t 4 (.pointer (some ⟨b,o+k,none⟩)) ?_
          try simp only [Act.put,sx]
          refine anyD_l 5 (.int .i64 (sk:Int)) (HSD3.out) ?_
          try simp only [Act.put,sx]
          refine anyD_one (i:=6) rfl rfl (by kernel_rfl) (fun K HK=>?_)
          go_simp
          refine (stands_any vr _ vt vh C H sk w _ (below_boxed HBD3.out) HC.out HH.out (by omega) HHL.out hsk).mono ?_
          rintro e w4 ⟨hb4,v4,rfl,hl4⟩
          have HB4:=Lib.hid (HBD3.out.trans (hb4.mono HBD3.out.size))
          have HOW4:=Lib.hid (own_below (own_below HOW3.out (Below.refl _ w3).drew) hb4)
          have HM4:Hid (LiAt (fun b=>some b ≠ u7.ownBlock) w4 v4 (stM C.sts H (sk:Int))):=Lib.hid (by
            have hq:stM C.sts H (sk:Int)=stD C.sts H (sk:Int):=by unfold stM; rw [if_pos HHI.out]
            rw [hq]
            refine hl4.mono fun b _ hb he=>?_
            have h1:=HOW3.out.lt b he.symm
            have h2:w3.heap.size=w3.drew.heap.size:=rfl
            omega)
          clear hb4 hl4
          go_simp
          refine HK.out _ _ (fun _ hS=>⟨box_later HB4.out,HLC.out _ (below_boxed HB4.out)⟩) ?_
          clear HK K
          try simp only [Act.put,sx]
          refine anyD_t 7 v4 ?_
          try simp only [Act.put,sx]
          refine anyD_done (by kernel_rfl) ?_
          generalize stM C.sts H (sk:Int)=M at *
          obtain ⟨mA,mcap,rfl,hmc⟩:=RowsAt.slice HM4.out
          have HMM:=HM4
          have HBB:=HB4
          have HOO:=HOW4
          have HR1:Hid (R=(l.drop (k+1)).foldl (rStep C.sts H) (M.foldl (rIn C.sts) acc)):=Lib.hid (by rw [HRK.out,HRS.out])
          have hml:M.length≤32:=HML.out
          clear HOW3 HB3 HM3 HM1 HBD HBD2 HBD3 HSD HSD2 HSD3 hown HB
          go_wp2_with fail
          go_loopw [7,11] (fun v i wr=>∃ (m:Nat) (acc':List Int),m≤M.length∧acc'.length≤k * 32+m∧i=.int .i64 (m:Int)∧Hid (R=(l.drop (k+1)).foldl (rStep C.sts H) ((M.drop m).foldl (rIn C.sts) acc'))∧Hid (Below (w.alloc (chBox vr (.slice sA C.sts.length scap) vt)).heap.size (w.alloc (chBox vr (.slice sA C.sts.length scap) vt)) wr)∧Hid (wr.ownsRow (w.heap.size+1) 3 1 v acc'.length (intVals acc'))∧Hid (LiAt (fun b=>some b ≠ v.ownBlock) wr (.slice mA M.length mcap) M)) (fun _ i _=>M.length - (intOf i).toNat)
          case atStart=>exact ⟨0,acc,Nat.zero_le _,hal,rfl,HR1,HBB,HOO,HMM⟩
          case round =>
            clear HR1 HBB HOO HMM HRK HRS hal HOW1 HB1
            obtain ⟨m,acc',hm,hal,rfl,HR,HB,hown,HM⟩:=hrel
            obtain ⟨wp,rfl⟩:∃ wp:World,wp=wr:=⟨_,rfl⟩
            obtain ⟨x0,x1,x2⟩:=box_later HB.out
            by_cases hlt2:m < M.length
            · obtain ⟨oA,ocap,rfl⟩:=own_form hown.out
              obtain ⟨mb,mo,hmA,hmbl,hmc0,hmne⟩:=(let ⟨_,_,h1,_,h3⟩:=HM.out; by injection h1 with e1 e2 e3; subst e1; exact h3 m _ (List.getElem?_eq_getElem hlt2):∃ b o,mA=some ⟨b,o,none⟩∧b < wp.heap.size∧(IntAt wp b (o+m * 1) M[m])∧_)
              subst hmA
              have HDX:Hid (wp.drew.cell? ⟨mb,mo+m,none⟩=some (.int .i64 M[m])):=Lib.hid (by have:=hmc0; unfold IntAt at this; rw [Nat.mul_one] at this; exact this)
              have HRM:=Lib.hid (HR.out.trans (congrArg (fun z=>(l.drop (k+1)).foldl (rStep C.sts H) z) (drop_fold _ M m hlt2 acc')))
              have HMBL:Hid (mb < wp.drew.heap.size):=Lib.hid hmbl
              generalize M[m]=x at *
              clear hmc0 hmne HR
              cases hisx:isSt C.sts x with
              | false =>
                have HISX:=Lib.hid hisx
                clear hisx
                go_wp2_with fail
                clear x0 x1 x2
                refine anyD_start (fun W=>(W.cell? ⟨w.heap.size,0,none⟩=some (.int .i64 vr)∧W.cell? ⟨w.heap.size,1,none⟩=some (.slice sA C.sts.length scap)∧W.cell? ⟨w.heap.size,2,none⟩=some vt)∧W.cell? ⟨mb,mo+m,none⟩=some (.int .i64 x)) (fun i=>[].contains i) (by kernel_rfl) ?_
                have HBD5:=Lib.hid HB.out.drew
                have HSD5:Hid ((wp.drew.cell? ⟨w.heap.size,0,none⟩=some (.int .i64 vr)∧wp.drew.cell? ⟨w.heap.size,1,none⟩=some (.slice sA C.sts.length scap)∧wp.drew.cell? ⟨w.heap.size,2,none⟩=some vt)∧wp.drew.cell? ⟨mb,mo+m,none⟩=some (.int .i64 x)):=Lib.hid ⟨box_later HBD5.out,HDX.out⟩
                refine anyD_l 0 (.agg #[.int .i64 vr,.slice sA C.sts.length scap,vt]) (HSD5.out) ?_
                try simp only [Act.put,sx]
                refine anyD_t 1 (.slice (some ⟨mb,mo,none⟩) M.length mcap) ?_
                try simp only [Act.put,sx]
                refine anyD_t 2 (.int .i64 (m:Int)) ?_
                try simp only [Act.put,sx]
                refine anyD_t 3 (.pointer (some ⟨mb,mo+m,none⟩)) ?_
                try simp only [Act.put,sx]
                refine anyD_l 4 (.int .i64 x) (HSD5.out) ?_
                try simp only [Act.put,sx]
                refine anyD_one (i:=5) rfl rfl (by kernel_rfl) (fun K HK=>?_)
                go_simp
                refine (there_any vr x _ vt C _ (HC.out.below (below_boxed HBD5.out)) (by omega)).mono ?_
                rintro e w6 ⟨rfl,hb6⟩
                have HB6:=Lib.hid (HBD5.out.trans (hb6.mono HBD5.out.size))
                have HOW6:=Lib.hid (own_below (own_below hown.out (Below.refl _ wp).drew) hb6)
                have HM6:=Lib.hid ((HM.out.below (Below.refl _ wp).drew).below hb6)
                have HDX6:=Lib.hid ((hb6.cell (p:=⟨mb,mo+m,none⟩) HMBL.out).trans HDX.out)
                have HS6:Hid (wp.drew.heap.size≤w6.heap.size):=Lib.hid hb6.size
                rw [HISX.out]
                clear hb6
                go_simp
                refine HK.out _ _ (fun _ hS=>⟨box_later HB6.out,HDX6.out⟩) ?_
                clear HK K
                try simp only [Act.put,sx]
                refine anyD_t 6 (.bool true) ?_
                try simp only [Act.put,sx]
                refine anyD_t 7 (.bool true) ?_
                try simp only [Act.put,sx]
                refine anyD_done (by kernel_rfl) ?_
                go_wp2_with fail
                go_loopw [12,13] (fun mv jv wr=>∃ (j:Nat),j≤acc'.length∧jv=.int .i64 (j:Int)∧mv=.bool (true)∧Hid (Below w6.heap.size w6 wr)) (fun _ jv _=>acc'.length - (intOf jv).toNat)
                case atStart=>exact ⟨0,Nat.zero_le _,rfl,rfl,Lib.hid (Below.refl _ _)⟩
                case round =>
                  obtain ⟨j,hj,rfl,rfl,HBW⟩:=hrel
                  obtain ⟨wq,rfl⟩:∃ wq:World,wq=wr:=⟨_,rfl⟩
                  by_cases hlt3:j < acc'.length
                  · go_wp2_with fail
                    go_quiet (fail)
                    go_wp2
                    go_roundw
                    case rel=>exact ⟨j+1,by omega,by go_num,rfl,Lib.hid (below_drewN HBW.out _)⟩
                    case measure=>simp [intOf]; omega
                  · obtain rfl:j=acc'.length:=by omega
                    go_wp2_with fail
                    go_roundw
                    case rel=>exact ⟨m+1,acc',by omega,by omega,by go_num,Lib.hid (by rw [HRM.out,rIn_none HISX.out]),Lib.hid (HB6.out.trans (HBW.out.mono HB6.out.size)),Lib.hid (own_below HOW6.out HBW.out),Lib.hid (HM6.out.below HBW.out)⟩
                    case measure=>simp [intOf]; omega
              | true =>
                have HISX:=Lib.hid hisx
                clear hisx
                go_wp2_with fail
                clear x0 x1 x2
                refine anyD_start (fun W=>(W.cell? ⟨w.heap.size,0,none⟩=some (.int .i64 vr)∧W.cell? ⟨w.heap.size,1,none⟩=some (.slice sA C.sts.length scap)∧W.cell? ⟨w.heap.size,2,none⟩=some vt)∧W.cell? ⟨mb,mo+m,none⟩=some (.int .i64 x)) (fun i=>[].contains i) (by kernel_rfl) ?_
                have HBD5:=Lib.hid HB.out.drew
                have HSD5:Hid ((wp.drew.cell? ⟨w.heap.size,0,none⟩=some (.int .i64 vr)∧wp.drew.cell? ⟨w.heap.size,1,none⟩=some (.slice sA C.sts.length scap)∧wp.drew.cell? ⟨w.heap.size,2,none⟩=some vt)∧wp.drew.cell? ⟨mb,mo+m,none⟩=some (.int .i64 x)):=Lib.hid ⟨box_later HBD5.out,HDX.out⟩
                refine anyD_l 0 (.agg #[.int .i64 vr,.slice sA C.sts.length scap,vt]) (HSD5.out) ?_
                try simp only [Act.put,sx]
                refine anyD_t 1 (.slice (some ⟨mb,mo,none⟩) M.length mcap) ?_
                try simp only [Act.put,sx]
                refine anyD_t 2 (.int .i64 (m:Int)) ?_
                try simp only [Act.put,sx]
                refine anyD_t 3 (.pointer (some ⟨mb,mo+m,none⟩)) ?_
                try simp only [Act.put,sx]
                refine anyD_l 4 (.int .i64 x) (HSD5.out) ?_
                try simp only [Act.put,sx]
                refine anyD_one (i:=5) rfl rfl (by kernel_rfl) (fun K HK=>?_)
                go_simp
                refine (there_any vr x _ vt C _ (HC.out.below (below_boxed HBD5.out)) (by omega)).mono ?_
                rintro e w6 ⟨rfl,hb6⟩
                have HB6:=Lib.hid (HBD5.out.trans (hb6.mono HBD5.out.size))
                have HOW6:=Lib.hid (own_below (own_below hown.out (Below.refl _ wp).drew) hb6)
                have HM6:=Lib.hid ((HM.out.below (Below.refl _ wp).drew).below hb6)
                have HDX6:=Lib.hid ((hb6.cell (p:=⟨mb,mo+m,none⟩) HMBL.out).trans HDX.out)
                have HS6:Hid (wp.drew.heap.size≤w6.heap.size):=Lib.hid hb6.size
                rw [HISX.out]
                clear hb6
                go_simp
                refine HK.out _ _ (fun _ hS=>⟨box_later HB6.out,HDX6.out⟩) ?_
                clear HK K
                try simp only [Act.put,sx]
                refine anyD_t 6 (.bool false) ?_
                try simp only [Act.put,sx]
                refine anyD_t 7 (.bool false) ?_
                try simp only [Act.put,sx]
                refine anyD_done (by kernel_rfl) ?_
                go_wp2_with fail
                go_loopw [12,13] (fun mv jv wr=>∃ (j:Nat),j≤acc'.length∧jv=.int .i64 (j:Int)∧mv=.bool ((acc'.take j).contains x)∧Hid (Below w6.heap.size w6 wr)) (fun _ jv _=>acc'.length - (intOf jv).toNat)
                case atStart=>exact ⟨0,Nat.zero_le _,rfl,rfl,Lib.hid (Below.refl _ _)⟩
                case round =>
                  obtain ⟨j,hj,rfl,rfl,HBW⟩:=hrel
                  obtain ⟨wq,rfl⟩:∃ wq:World,wq=wr:=⟨_,rfl⟩
                  have d1:wq.cell? ⟨mb,mo+m,none⟩=some (.int .i64 x):=(HBW.out.cell (p:=⟨mb,mo+m,none⟩) (Nat.lt_of_lt_of_le HMBL.out HS6.out)).trans HDX6.out
                  by_cases hlt3:j < acc'.length
                  · have HTS:=Lib.hid (take_has acc' x hlt3)
                    obtain ⟨ob,oo,rfl,hol,hocell⟩:=(let ⟨_,_,h1,_,h3⟩:=list_of_own HOW6.out; by injection h1 with e1 e2 e3; subst e1; exact h3 j _ (List.getElem?_eq_getElem hlt3):∃ b o,oA=some ⟨b,o,none⟩∧b < w6.heap.size∧(IntAt w6 b (o+j * 1) acc'[j]))
                    have d2:wq.cell? ⟨ob,oo+j,none⟩=some (.int .i64 acc'[j]):=by have:=IntAt.keeps w6 wq ob _ _ HBW.out hol hocell; unfold IntAt at this; rwa [Nat.mul_one] at this
                    generalize acc'[j]=y at *
                    clear hocell
                    cases hmt:(acc'.take j).contains x with
                    | true =>
                      have HT1:Hid ((acc'.take (j+1)).contains x=true):=Lib.hid (by rw [HTS.out,hmt]; rfl)
                      clear hmt
                      go_wp2_with fail
                      go_quiet (fail)
                      go_wp2
                      go_roundw
                      case rel=>exact ⟨j+1,by omega,by go_num,by rw [HT1.out],Lib.hid (below_drewN HBW.out _)⟩
                      case measure=>simp [intOf]; omega
                    | false =>
                      have HT1:Hid ((acc'.take (j+1)).contains x=(y == x)):=Lib.hid (by rw [HTS.out,hmt]; rfl)
                      clear hmt
                      go_wp2_with fail
                      go_quiet (fail)
                      go_wp2
                      go_roundw
                      case rel=>exact ⟨j+1,by omega,by go_num,by rw [HT1.out],Lib.hid (below_drewN HBW.out _)⟩
                      case measure=>simp [intOf]; omega
                  · obtain rfl:j=acc'.length:=by omega
                    have htk:acc'.take acc'.length=acc':=List.take_length
                    cases hmt:acc'.contains x with
                    | true =>
                      rw [htk,hmt]
                      have HMT:=Lib.hid hmt
                      clear hmt htk
                      go_wp2_with fail
                      go_roundw
                      case rel=>exact ⟨m+1,acc',by omega,by omega,by go_num,Lib.hid (by rw [HRM.out,rIn_real HISX.out,realIn_old HMT.out]),Lib.hid (HB6.out.trans (HBW.out.mono HB6.out.size)),Lib.hid (own_below HOW6.out HBW.out),Lib.hid (HM6.out.below HBW.out)⟩
                      case measure=>simp [intOf]; omega
                    | false =>
                      rw [htk,hmt]
                      have HMT:=Lib.hid hmt
                      have HOQ:=Lib.hid (own_below HOW6.out HBW.out)
                      have HBQ:=Lib.hid (HB6.out.trans (HBW.out.mono HB6.out.size))
                      have HMQ:=Lib.hid (HM6.out.below HBW.out)
                      have hbs:w.heap.size+1≤wq.heap.size:=by have:=HBQ.out.size; simpa using this
                      clear hmt htk
                      go_wp2_with (at_builtin; refine wpList_append_own_at _ rfl _ _ 36 rfl (w.heap.size+1) 3 i0 (.int .i64 0) 1 8 Tryz.underlying36 HI.out HZ0.out HZ1.out HZ2.out rfl (by decide) _ _ _ rfl (HOQ.out.alloc _) ⟨wq.heap.size,0,none⟩ 1 1 [.int .i64 x] rfl rfl ?c1 ?c2 ?c3 ?c4 ?c5 ?_)
                      case c1=>exact new_val _ _ _ _ (by simp)
                      case c2=>exact int_one _
                      case c3=>unfold maxLen; omega
                      case c4=>omega
                      case c5=>simp; omega
                      intro v' w2 hown' hgrow _ hat
                      have HG:=Lib.hid (Below.grown (HBQ.out.alloc HBQ.out.size _) hgrow (by simp; omega) (fun g hg=>by have:=(HOQ.out.lt g hg).1; simpa using this))
                      have HO':=Lib.hid hown'
                      have HM2:Hid (LiAt (fun b=>some b ≠ v'.ownBlock) w2 (.slice (some ⟨mb,mo,none⟩) M.length mcap) M):=Lib.hid (((((HMQ.out.mono fun b hb hc=>(⟨hb,hc⟩:b < wq.heap.size∧some b ≠ _)).below (below_box wq _)).grown hgrow fun b _ hc=>hc.2).mono fun b _ hc=>by
                        rcases hat with h | h
                        · rw [h]; exact hc.2
                        · rw [h]; intro he; injection he with he; have:=hc.1; have h3:(wq.alloc (.cells #[.int .i64 x] 3)).heap.size=wq.heap.size+1:=by simp
                          omega))
                      clear hown' hgrow hat
                      go_wp2
                      go_roundw
                      case rel=>exact ⟨m+1,acc' ++ [x],by omega,by simp; omega,by go_num,Lib.hid (by rw [HRM.out,rIn_real HISX.out,realIn_new HMT.out]),HG,Lib.hid (by rw [intVals_snoc]; simpa using HO'.out),HM2⟩
                      case measure=>simp [intOf]; omega
            · obtain rfl:m=M.length:=by omega
              have hRM:=HR.out
              rw [List.drop_length,List.foldl_nil] at hRM
              have HRN:=Lib.hid hRM
              clear hRM
              go_wp2_with fail
              go_roundw
              case rel=>exact ⟨k+1,acc',by omega,by omega,by go_num,HRN,HB,hown⟩
              case measure=>simp [intOf]; omega
    · obtain rfl:k=l.length:=by omega
      have hR:=HR.out
      rw [List.drop_length,List.foldl_nil] at hR
      have HRR:=Lib.hid hR
      clear hR
      go_wp2_with fail
      go_ret
      exact ⟨below_boxed HB.out,_,rfl,by rw [HRR.out]; exact own_lower hown.out (by omega)⟩
end Go.Proofs.YtfgkcjmeiabdjaaGreatDoor
