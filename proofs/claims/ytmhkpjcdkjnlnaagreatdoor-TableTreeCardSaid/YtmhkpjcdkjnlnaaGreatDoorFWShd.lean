/- The contracts of enter.Real and enter.Set. -/
import Derived.Test.YtmhkpjcdkjnlnaaGreatDoorFWSbl
namespace Go.Proofs.YtmhkpjcdkjnlnaaGreatDoor
open Go.ChangeShapes Go.WideShapes Go.ChangeAt Go.RowKit
set_option linter.unusedVariables false

theorem memb_len (S:List St) (P:Nat→Bool):(memb S P).length≤S.length:=membU_len P _
theorem memb_valid {S:List St} {P:Nat→Bool} {x:Int} (h:x ∈ memb S P):isSt S x=true:=by
 unfold memb at h
 obtain ⟨j,hj,rfl⟩:=List.mem_map.1 h
 exact isSt_of (List.mem_range.1 (List.mem_filter.1 hj).1)
theorem of_valid {S:List St} (hT:Tame S) (H:List Nat) (s:Int):(ofS S H s).length≤31∧∀ x ∈ ofS S H s,isSt S x=true:=by
 unfold ofS
 split
 · exact ⟨by simp,fun x hx=>by cases hx⟩
 · rename_i hs
   have hs:isSt S s=true:=by simpa using hs
   split
   · refine ⟨by simp,fun x hx=>?_⟩
     obtain rfl:=List.mem_singleton.1 hx
     exact hs
   · rename_i hh
     have hh:histB (stAt S s).kind=true:=by simpa using hh
     split
     · exact ⟨by have:=memb_len S (bitN (histAt H s)); have:=hT.len; omega,fun x hx=>memb_valid hx⟩
     · obtain ⟨t,h1,h2,_⟩:=hT.ini5 s hs hh
       rw [h1]
       refine ⟨by simp,fun x hx=>?_⟩
       obtain rfl:=List.mem_singleton.1 hx
       exact h2
theorem fold_realIn:∀ (M acc:List Int),(M.foldl realIn acc).length≤acc.length+M.length
 | [],acc=>by simp
 | x :: M,acc=>by
  have h1:=fold_realIn M (realIn acc x)
  have h2:(realIn acc x).length≤acc.length+1:=by unfold realIn; split <;> simp
  rw [List.foldl_cons,List.length_cons]
  omega
theorem real_len {S:List St} (hT:Tame S) (H:List Nat) (l:List Int):(realS S H l).length≤31 * l.length:=by
 have:∀ (l acc:List Int),(l.foldl (fun acc s=>(ofS S H s).foldl realIn acc) acc).length≤acc.length+31 * l.length:=by
  intro l
  induction l with
  | nil=>intro acc; simp
  | cons s l ih =>
   intro acc
   have h1:=ih ((ofS S H s).foldl realIn acc)
   have h2:=fold_realIn (ofS S H s) acc
   have h3:=(of_valid hT H s).1
   rw [List.foldl_cons,List.length_cons]
   omega
 have h:=this l []
 rw [List.length_nil,Nat.zero_add] at h
 exact h
theorem ent_of {w:World} {t:Nat} {vs vh:Value} {C:Ch} {H:List Nat} (hT:TreeAt w t C) (hk:chk hasTB C=.ok) (hF:fewB C=true) (hS:StsAt w vs C.sts) (hH:HistAt w vh H) (hl:H.length≤1000):Ent w t vs vh C H:=by
 have hta:=tame_of hk
 refine ⟨hT,hS,hH,rooted_of hk,hta.len,hl,fun s=>by have:=(of_valid hta H s).1; omega,fun s hs=>?_⟩
 obtain ⟨k,rfl,hkl⟩:=isSt_nat hs
 have:=(few_sms hF hkl).1
 have he:stAt C.sts (k:Int)=C.sts.getD k noSt:=by unfold stAt; rfl
 rw [he]
 omega
set_option maxHeartbeats 4000000 in
set_option maxRecDepth 100000 in
theorem enterSet_any (t:Nat) (a:Int) (vh vl:Value) (C:Ch) (H:List Nat) (l:List Int) (w:World) (hT:TreeAt w t C) (hk:chk hasTB C=.ok) (hF:fewB C=true) (hH:HistAt w vh H) (hl:H.length≤1000) (hv:ListAt w vl l) (hll:l.length≤1000) :
 Calls Tryz.prog 20 #[.pointer (some ⟨t,0,none⟩),vh,.int .i64 a,vl] w fun e w'=>e=.returned (.int .u32 ((bset (pSet C.sts H a l).a C.sts.length:Nat):Int))∧Below w.heap.size w w':=by
 have hta:=tame_of hk
 obtain ⟨hA,hcap,rfl,hhcap⟩:=RowsAt.slice hH
 have HSI:=Lib.hid (standIns_any t hA H.length hcap C w hT hF)
 have HENT:=Lib.hid (fun (W:World) (vs:Value) (hb:Below w.heap.size w W) (hS:StsAt W vs C.sts)=>ent_of (hT.below hb) hk hF hS (hH.below hb) hl)
 have HRL:=Lib.hid (fun (W:World) (vs:Value) (hS:StsAt W vs C.sts) (hH:HistAt W (.slice hA H.length hcap) H) (hv:ListAt W vl l)=>real_any vs (.slice hA H.length hcap) vl C.sts H l W hS hH hv (by have:=hta.len; omega) hl hll (fun s=>of_valid hta H s))
 have HLV:=Lib.hid hv
 obtain ⟨lA,lcap,rfl,hlcap⟩:=RowsAt.slice hv
 obtain ⟨st0,hst0⟩:∃ st0:Bs,st0=⟨fun _=>false,fun _=>false⟩:=⟨_,rfl⟩
 obtain ⟨M,hM⟩:∃ M:Bs,M=l.foldl (pB C.sts H (C.sts.length+2)) st0:=⟨_,rfl⟩
 obtain ⟨D,hD⟩:∃ D:Bs,D=(realS C.sts H l).foldl (aboveW C.sts (tB C.sts) adB (pB C.sts H (C.sts.length+2)) a) M:=⟨_,rfl⟩
 have HRES:Hid (pSet C.sts H a l=D):=Lib.hid (by rw [hD,hM,hst0]; rfl)
 have HM:=Lib.hid hM
 have HD:=Lib.hid hD
 have HC0:Hid (cntU C.sts.length st0.b≤C.sts.length+2):=Lib.hid (by rw [hst0]; show cntU C.sts.length (fun _=>false)≤_; rw [cntU_top]; omega)
 have HZ:Hid (bset st0.a C.sts.length=0∧bset st0.b C.sts.length=0):=Lib.hid (by
  have h:bset (fun _=>false) C.sts.length=0:=(bset_zero _ _).2 (by rw [List.any_eq_false]; intro x _; simp)
  rw [hst0]; exact ⟨h,h⟩)
 have hrl:(realS C.sts H l).length≤1000000:=by have:=real_len hta H l; omega
 generalize realS C.sts H l=R at *
 clear hT hk hF hH hv hst0 hM hD
 go_enter Tryz.func20,Tryz.ntmps20
 go_wp2_with fail
 refine HSI.out.mono ?_
 rintro e w1 ⟨hb1,vs,rfl,hS1⟩
 obtain ⟨sA,scap,rfl,hscap⟩:=RowsAt.slice hS1
 have HB1:=Lib.hid hb1
 have HN:=Lib.hid (HENT.out w1 _ hb1 hS1)
 have HL1:=Lib.hid (HLV.out.below hb1)
 have HE0:Hid (EAt w1 t (.slice sA C.sts.length scap) (.slice hA H.length hcap) C.sts.length st0 (w1.alloc (.cells #[.slice sA C.sts.length scap,.slice hA H.length hcap,.pointer (some ⟨t,0,none⟩),.int .u32 0,.int .u32 0] 94))):=Lib.hid ⟨below_box w1 _,by rw [HZ.out.1,HZ.out.2]; exact Blk.new w1 94 _⟩
 have HL0:Hid (LiAt (fun b=>b ≠ w1.heap.size) (w1.alloc (.cells #[.slice sA C.sts.length scap,.slice hA H.length hcap,.pointer (some ⟨t,0,none⟩),.int .u32 0,.int .u32 0] 94)) (.slice lA l.length lcap) l):=Lib.hid (list_in HL1.out (below_box w1 _))
 clear hb1 hS1 HSI HENT
 go_wp2_with fail
 go_loopw [23] (fun i wr=>∃ (k:Nat) (st2:Bs),k≤l.length∧i=.int .i64 (k:Int)∧Hid (EAt w1 t (.slice sA C.sts.length scap) (.slice hA H.length hcap) C.sts.length st2 wr)∧Hid (cntU C.sts.length st2.b≤C.sts.length+2)∧Hid (LiAt (fun b=>b ≠ w1.heap.size) wr (.slice lA l.length lcap) l)∧Hid (M=(l.drop k).foldl (pB C.sts H (C.sts.length+2)) st2)) (fun i _=>l.length - (intOf i).toNat)
 case atStart=>exact ⟨0,st0,Nat.zero_le _,rfl,HE0,HC0,HL0,HM⟩
 case round =>
  clear HE0 HC0 HL0 HM
  obtain ⟨k,st2,hk,rfl,HE,HC,HL,HR⟩:=hrel
  obtain ⟨wo,rfl⟩:∃ wo:World,wo=wr:=⟨_,rfl⟩
  by_cases hlt:k < l.length
  · obtain ⟨mb,mo,hmA,hmbl,hmc0,hmne⟩:=(let ⟨_,_,h1,_,h3⟩:=HL.out; by injection h1 with e1 e2 e3; subst e1; exact h3 k _ (List.getElem?_eq_getElem hlt):∃ b o,lA=some ⟨b,o,none⟩∧b < wo.heap.size∧(IntAt wo b (o+k * 1) l[k])∧_)
    subst hmA
    have d0:wo.cell? ⟨mb,mo+k,none⟩=some (.int .i64 l[k]):=by have:=hmc0; unfold IntAt at this; rwa [Nat.mul_one] at this
    have hRK:=HR.out
    rw [List.drop_eq_getElem_cons hlt,List.foldl_cons] at hRK
    have HRK:=Lib.hid hRK
    generalize l[k]=x at *
    clear hmc0 hmne hRK HR
    go_wp2_with fail
    refine ((below_ok HN.out _) x st2 _ HE.out HC.out).mono ?_
    rintro e w6 ⟨rfl,hg6,he6⟩
    have HE6:=Lib.hid he6
    have HL6:=Lib.hid (HL.out.grown hg6 fun b _ hb h=>hb (by injection h))
    have HC6:Hid (cntU C.sts.length (pB C.sts H (C.sts.length+2) st2 x).b≤C.sts.length+2):=Lib.hid (Nat.le_trans (cntU_le _ (pB_up C.sts H _ st2 x)) HC.out)
    clear hg6 he6
    go_wp2
    go_roundw
    case rel=>exact ⟨k+1,_,by omega,by go_num,HE6,HC6,HL6,HRK⟩
    case measure=>simp [intOf]; omega
  · obtain rfl:k=l.length:=by omega
    have hR:=HR.out
    rw [List.drop_length,List.foldl_nil] at hR
    have HRR:=Lib.hid hR
    clear hR
    have HRL1:=Lib.hid (HRL.out wo _ (HN.out.sts.below HE.out.below) (HN.out.hist.below HE.out.below) (HL1.out.below HE.out.below))
    have p0:=HE.out.cells.1.1
    have p1:=HE.out.cells.1.2.1
    go_wp2_with fail
    refine HRL1.out.mono ?_
    rintro e w2 ⟨hb2,v2,rfl,ho2⟩
    have HE2:=Lib.hid (HE.out.kept hb2)
    rw [← HRR.out] at HE2 HC
    have HC2:=Lib.hid HC.out
    have HL2:Hid (LiAt (fun b=>b ≠ w1.heap.size) w2 v2 R):=Lib.hid (LiAt.of_own ho2 fun b hb=>by have:=HE.out.lt; omega)
    obtain ⟨rA,rcap,rfl,hrc⟩:=RowsAt.slice HL2.out
    clear hb2 ho2 HE HC HRR HRL1 p0 p1
    go_wp2_with fail
    go_loopw [35] (fun i wr=>∃ (k:Nat) (st2:Bs),k≤R.length∧i=.int .i64 (k:Int)∧Hid (EAt w1 t (.slice sA C.sts.length scap) (.slice hA H.length hcap) C.sts.length st2 wr)∧Hid (cntU C.sts.length st2.b≤C.sts.length+2)∧Hid (LiAt (fun b=>b ≠ w1.heap.size) wr (.slice rA R.length rcap) R)∧Hid (D=(R.drop k).foldl (aboveW C.sts (tB C.sts) adB (pB C.sts H (C.sts.length+2)) a) st2)) (fun i _=>R.length - (intOf i).toNat)
    case atStart=>exact ⟨0,M,Nat.zero_le _,rfl,HE2,HC2,HL2,HD⟩
    case round =>
     clear HE2 HC2 HL2 HD HL hlt hk
     obtain ⟨k,st2,hk,rfl,HE,HC,HL,HR⟩:=hrel
     obtain ⟨wo,rfl⟩:∃ wo:World,wo=wr:=⟨_,rfl⟩
     by_cases hlt:k < R.length
     · obtain ⟨mb,mo,hmA,hmbl,hmc0,hmne⟩:=(let ⟨_,_,h1,_,h3⟩:=HL.out; by injection h1 with e1 e2 e3; subst e1; exact h3 k _ (List.getElem?_eq_getElem hlt):∃ b o,rA=some ⟨b,o,none⟩∧b < wo.heap.size∧(IntAt wo b (o+k * 1) R[k])∧_)
       subst hmA
       have d0:wo.cell? ⟨mb,mo+k,none⟩=some (.int .i64 R[k]):=by have:=hmc0; unfold IntAt at this; rwa [Nat.mul_one] at this
       have hRK:=HR.out
       rw [List.drop_eq_getElem_cons hlt,List.foldl_cons] at hRK
       have HRK:=Lib.hid hRK
       generalize R[k]=x at *
       clear hmc0 hmne hRK HR
       go_wp2_with fail
       refine (addAbove_any HN.out (below_ok HN.out _) x a st2 _ HE.out HC.out).mono ?_
       rintro e w6 ⟨rfl,hg6,he6⟩
       have HE6:=Lib.hid he6
       have HL6:=Lib.hid (HL.out.grown hg6 fun b _ hb h=>hb (by injection h))
       have HC6:Hid (cntU C.sts.length (aboveW C.sts (tB C.sts) adB (pB C.sts H (C.sts.length+2)) a st2 x).b≤C.sts.length+2):=Lib.hid (Nat.le_trans (cntU_le _ (upW_up (pB_up C.sts H _) a (ups C.sts x) st2)) HC.out)
       clear hg6 he6
       go_wp2
       go_roundw
       case rel=>exact ⟨k+1,_,by omega,by go_num,HE6,HC6,HL6,HRK⟩
       case measure=>simp [intOf]; omega
     · obtain rfl:k=R.length:=by omega
       have hR:=HR.out
       rw [List.drop_length,List.foldl_nil] at hR
       have HRR:=Lib.hid hR
       clear hR
       have q3:=HE.out.cells.2.1
       go_wp2_with fail
       go_ret
       exact ⟨ret_int (by rw [HRES.out,HRR.out]),HB1.out.trans (HE.out.below.mono HB1.out.size)⟩

end Go.Proofs.YtmhkpjcdkjnlnaaGreatDoor
