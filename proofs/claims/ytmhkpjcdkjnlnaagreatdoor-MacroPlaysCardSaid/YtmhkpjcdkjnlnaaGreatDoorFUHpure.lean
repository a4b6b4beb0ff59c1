/- The contracts of enter.Real and enter.Set. -/
import Derived.Test.YtmhkpjcdkjnlnaaGreatDoorFUSbl
import Derived.Test.YtmhkpjcdkjnlnaaGreatDoorFUPkind
import Derived.Test.YtmhkpjcdkjnlnaaGreatDoorFUSrl
import Derived.Test.YtmhkpjcdkjnlnaaGreatDoorFUSpure
import Derived.Test.YtmhkpjcdkjnlnaaGreatDoorFUEwor
import Derived.Test.YtmhkpjcdkjnlnaaGreatDoorFUCact
namespace Go.Proofs.YtmhkpjcdkjnlnaaGreatDoor
open Go.ChangeShapes Go.WideShapes Go.ChangeAt Go.RowKit
set_option linter.unusedVariables false

theorem memb_len (S:List St) (P:Nat→Bool):(memb S P).length≤S.length:=membU_len P _
theorem memb_valid {S:List St} {P:Nat→Bool} {x:Int} (h:x ∈ memb S P):isSt S x=true:=by
 unfold memb at h
 obtain ⟨j,hj,rfl⟩:=List.mem_map.1 h
 exact isSt_of (List.mem_range.1 (List.mem_filter.1 hj).1)
theorem of_valid {S:List St} (hT:Tame S) (H:List Nat) (s:Int):(ofS S H s).length≤31∧∀ x ∈ ofS S H s,isSt S x=true:=by
 unfold ofS
 split
 · exact ⟨by simp,fun x hx=>by cases hx⟩
 · rename_i hs
   have hs:isSt S s=true:=by simpa using hs
   split
   · refine ⟨by simp,fun x hx=>?_⟩
     obtain rfl:=List.mem_singleton.1 hx
     exact hs
   · rename_i hh
     have hh:histB (stAt S s).kind=true:=by simpa using hh
     split
     · exact ⟨by have:=memb_len S (bitN (histAt H s)); have:=hT.len; omega,fun x hx=>memb_valid hx⟩
     · obtain ⟨t,h1,h2,_⟩:=hT.ini5 s hs hh
       rw [h1]
       refine ⟨by simp,fun x hx=>?_⟩
       obtain rfl:=List.mem_singleton.1 hx
       exact h2
theorem fold_realIn:∀ (M acc:List Int),(M.foldl realIn acc).length≤acc.length+M.length
 | [],acc=>by simp
 | x :: M,acc=>by
  have h1:=fold_realIn M (realIn acc x)
  have h2:(realIn acc x).length≤acc.length+1:=by unfold realIn; split <;> simp
  rw [List.foldl_cons,List.length_cons]
  omega
theorem real_len {S:List St} (hT:Tame S) (H:List Nat) (l:List Int):(realS S H l).length≤31 * l.length:=by
 have:∀ (l acc:List Int),(l.foldl (fun acc s=>(ofS S H s).foldl realIn acc) acc).length≤acc.length+31 * l.length:=by
  intro l
  induction l with
  | nil=>intro acc; simp
  | cons s l ih =>
   intro acc
   have h1:=ih ((ofS S H s).foldl realIn acc)
   have h2:=fold_realIn (ofS S H s) acc
   have h3:=(of_valid hT H s).1
   rw [List.foldl_cons,List.length_cons]
   omega
 have h:=this l []
 rw [List.length_nil,Nat.zero_add] at h
 exact h
theorem ent_of {w:World} {t:Nat} {vs vh:Value} {C:Ch} {H:List Nat} (hT:TreeAt w t C) (hk:chk hasTB C=.ok) (hF:fewB C=true) (hS:StsAt w vs C.sts) (hH:HistAt w vh H) (hl:H.length≤1000):Ent w t vs vh C H:=by
 have hta:=tame_of hk
 refine ⟨hT,hS,hH,rooted_of hk,hta.len,hl,fun s=>by have:=(of_valid hta H s).1; omega,fun s hs=>?_⟩
 obtain ⟨k,rfl,hkl⟩:=isSt_nat hs
 have:=(few_sms hF hkl).1
 have he:stAt C.sts (k:Int)=C.sts.getD k noSt:=by unfold stAt; rfl
 rw [he]
 omega
set_option maxHeartbeats 4000000 in
set_option maxRecDepth 100000 in
theorem enterSet_any (t:Nat) (a:Int) (vh vl:Value) (C:Ch) (H:List Nat) (l:List Int) (w:World) (hT:TreeAt w t C) (hk:chk hasTB C=.ok) (hF:fewB C=true) (hH:HistAt w vh H) (hl:H.length≤1000) (hv:ListAt w vl l) (hll:l.length≤1000) :
 Calls Tryz.prog 20 #[.pointer (some ⟨t,0,none⟩),vh,.int .i64 a,vl] w fun e w'=>e=.returned (.int .u32 ((bset (pSet C.sts H a l).a C.sts.length:Nat):Int))∧Below w.heap.size w w':=by
 have hta:=tame_of hk
 obtain ⟨hA,hcap,rfl,hhcap⟩:=RowsAt.slice hH
 have HSI:=Lib.hid (standIns_any t hA H.length hcap C w hT hF)
 have HENT:=Lib.hid (fun (W:World) (vs:Value) (hb:Below w.heap.size w W) (hS:StsAt W vs C.sts)=>ent_of (hT.below hb) hk hF hS (hH.below hb) hl)
 have HRL:=Lib.hid (fun (W:World) (vs:Value) (hS:StsAt W vs C.sts) (hH:HistAt W (.slice hA H.length hcap) H) (hv:ListAt W vl l)=>real_any vs (.slice hA H.length hcap) vl C.sts H l W hS hH hv (by have:=hta.len; omega) hl hll (fun s=>of_valid hta H s))
 have HLV:=Lib.hid hv
 obtain ⟨lA,lcap,rfl,hlcap⟩:=RowsAt.slice hv
 obtain ⟨st0,hst0⟩:∃ st0:Bs,st0=⟨fun _=>false,fun _=>false⟩:=⟨_,rfl⟩
 obtain ⟨M,hM⟩:∃ M:Bs,M=l.foldl (pB C.sts H (C.sts.length+2)) st0:=⟨_,rfl⟩
 obtain ⟨D,hD⟩:∃ D:Bs,D=(realS C.sts H l).foldl (aboveW C.sts (tB C.sts) adB (pB C.sts H (C.sts.length+2)) a) M:=⟨_,rfl⟩
 have HRES:Hid (pSet C.sts H a l=D):=Lib.hid (by rw [hD,hM,hst0]; rfl)
 have HM:=Lib.hid hM
 have HD:=Lib.hid hD
 have HC0:Hid (cntU C.sts.length st0.b≤C.sts.length+2):=Lib.hid (by rw [hst0]; show cntU C.sts.length (fun _=>false)≤_; rw [cntU_top]; omega)
 have HZ:Hid (bset st0.a C.sts.length=0∧bset st0.b C.sts.length=0):=Lib.hid (by
  have h:bset (fun _=>false) C.sts.length=0:=(bset_zero _ _).2 (by rw [List.any_eq_false]; intro x _; simp)
  rw [hst0]; exact ⟨h,h⟩)
 have hrl:(realS C.sts H l).length≤1000000:=by have:=real_len hta H l; omega
 generalize realS C.sts H l=R at *
 clear hT hk hF hH hv hst0 hM hD
 go_enter Tryz.func20,Tryz.ntmps20
 go_wp2_with fail
 refine HSI.out.mono ?_
 rintro e w1 ⟨hb1,vs,rfl,hS1⟩
 obtain ⟨sA,scap,rfl,hscap⟩:=RowsAt.slice hS1
 have HB1:=Lib.hid hb1
 have HN:=Lib.hid (HENT.out w1 _ hb1 hS1)
 have HL1:=Lib.hid (HLV.out.below hb1)
 have HE0:Hid (EAt w1 t (.slice sA C.sts.length scap) (.slice hA H.length hcap) C.sts.length st0 (w1.alloc (.cells #[.slice sA C.sts.length scap,.slice hA H.length hcap,.pointer (some ⟨t,0,none⟩),.int .u32 0,.int .u32 0] 94))):=Lib.hid ⟨below_box w1 _,by rw [HZ.out.1,HZ.out.2]; exact Blk.new w1 94 _⟩
 have HL0:Hid (LiAt (fun b=>b ≠ w1.heap.size) (w1.alloc (.cells #[.slice sA C.sts.length scap,.slice hA H.length hcap,.pointer (some ⟨t,0,none⟩),.int .u32 0,.int .u32 0] 94)) (.slice lA l.length lcap) l):=Lib.hid (list_in HL1.out (below_box w1 _))
 clear hb1 hS1 HSI HENT
 go_wp2_with fail
 go_loopw [23] (fun i wr=>∃ (k:Nat) (st2:Bs),k≤l.length∧i=.int .i64 (k:Int)∧Hid (EAt w1 t (.slice sA C.sts.length scap) (.slice hA H.length hcap) C.sts.length st2 wr)∧Hid (cntU C.sts.length st2.b≤C.sts.length+2)∧Hid (LiAt (fun b=>b ≠ w1.heap.size) wr (.slice lA l.length lcap) l)∧Hid (M=(l.drop k).foldl (pB C.sts H (C.sts.length+2)) st2)) (fun i _=>l.length - (intOf i).toNat)
 case atStart=>exact ⟨0,st0,Nat.zero_le _,rfl,HE0,HC0,HL0,HM⟩
 case round =>
  clear HE0 HC0 HL0 HM
  obtain ⟨k,st2,hk,rfl,HE,HC,HL,HR⟩:=hrel
  obtain ⟨wo,rfl⟩:∃ wo:World,wo=wr:=⟨_,rfl⟩
  by_cases hlt:k < l.length
  · obtain ⟨mb,mo,hmA,hmbl,hmc0,hmne⟩:=(let ⟨_,_,h1,_,h3⟩:=HL.out; by injection h1 with e1 e2 e3; subst e1; exact h3 k _ (List.getElem?_eq_getElem hlt):∃ b o,lA=some ⟨b,o,none⟩∧b < wo.heap.size∧(IntAt wo b (o+k * 1) l[k])∧_)
    subst hmA
    have d0:wo.cell? ⟨mb,mo+k,none⟩=some (.int .i64 l[k]):=by have:=hmc0; unfold IntAt at this; rwa [Nat.mul_one] at this
    have hRK:=HR.out
    rw [List.drop_eq_getElem_cons hlt,List.foldl_cons] at hRK
    have HRK:=Lib.hid hRK
    generalize l[k]=x at *
    clear hmc0 hmne hRK HR
    go_wp2_with fail
    refine ((below_ok HN.out _) x st2 _ HE.out HC.out).mono ?_
    rintro e w6 ⟨rfl,hg6,he6⟩
    have HE6:=Lib.hid he6
    have HL6:=Lib.hid (HL.out.grown hg6 fun b _ hb h=>hb (by injection h))
    have HC6:Hid (cntU C.sts.length (pB C.sts H (C.sts.length+2) st2 x).b≤C.sts.length+2):=Lib.hid (Nat.le_trans (cntU_le _ (pB_up C.sts H _ st2 x)) HC.out)
    clear hg6 he6
    go_wp2
    go_roundw
    case rel=>exact ⟨k+1,_,by omega,by go_num,HE6,HC6,HL6,HRK⟩
    case measure=>simp [intOf]; omega
  · obtain rfl:k=l.length:=by omega
    have hR:=HR.out
    rw [List.drop_length,List.foldl_nil] at hR
    have HRR:=Lib.hid hR
    clear hR
    have HRL1:=Lib.hid (HRL.out wo _ (HN.out.sts.below HE.out.below) (HN.out.hist.below HE.out.below) (HL1.out.below HE.out.below))
    have p0:=HE.out.cells.1.1
    have p1:=HE.out.cells.1.2.1
    go_wp2_with fail
    refine HRL1.out.mono ?_
    rintro e w2 ⟨hb2,v2,rfl,ho2⟩
    have HE2:=Lib.hid (HE.out.kept hb2)
    rw [← HRR.out] at HE2 HC
    have HC2:=Lib.hid HC.out
    have HL2:Hid (LiAt (fun b=>b ≠ w1.heap.size) w2 v2 R):=Lib.hid (LiAt.of_own ho2 fun b hb=>by have:=HE.out.lt; omega)
    obtain ⟨rA,rcap,rfl,hrc⟩:=RowsAt.slice HL2.out
    clear hb2 ho2 HE HC HRR HRL1 p0 p1
    go_wp2_with fail
    go_loopw [35] (fun i wr=>∃ (k:Nat) (st2:Bs),k≤R.length∧i=.int .i64 (k:Int)∧Hid (EAt w1 t (.slice sA C.sts.length scap) (.slice hA H.length hcap) C.sts.length st2 wr)∧Hid (cntU C.sts.length st2.b≤C.sts.length+2)∧Hid (LiAt (fun b=>b ≠ w1.heap.size) wr (.slice rA R.length rcap) R)∧Hid (D=(R.drop k).foldl (aboveW C.sts (tB C.sts) adB (pB C.sts H (C.sts.length+2)) a) st2)) (fun i _=>R.length - (intOf i).toNat)
    case atStart=>exact ⟨0,M,Nat.zero_le _,rfl,HE2,HC2,HL2,HD⟩
    case round =>
     clear HE2 HC2 HL2 HD HL hlt hk
     obtain ⟨k,st2,hk,rfl,HE,HC,HL,HR⟩:=hrel
     obtain ⟨wo,rfl⟩:∃ wo:World,wo=wr:=⟨_,rfl⟩
     by_cases hlt:k < R.length
     · obtain ⟨mb,mo,hmA,hmbl,hmc0,hmne⟩:=(let ⟨_,_,h1,_,h3⟩:=HL.out; by injection h1 with e1 e2 e3; subst e1; exact h3 k _ (List.getElem?_eq_getElem hlt):∃ b o,rA=some ⟨b,o,none⟩∧b < wo.heap.size∧(IntAt wo b (o+k * 1) R[k])∧_)
       subst hmA
       have d0:wo.cell? ⟨mb,mo+k,none⟩=some (.int .i64 R[k]):=by have:=hmc0; unfold IntAt at this; rwa [Nat.mul_one] at this
       have hRK:=HR.out
       rw [List.drop_eq_getElem_cons hlt,List.foldl_cons] at hRK
       have HRK:=Lib.hid hRK
       generalize R[k]=x at *
       clear hmc0 hmne hRK HR
       go_wp2_with fail
       refine (addAbove_any HN.out (below_ok HN.out _) x a st2 _ HE.out HC.out).mono ?_
       rintro e w6 ⟨rfl,hg6,he6⟩
       have HE6:=Lib.hid he6
       have HL6:=Lib.hid (HL.out.grown hg6 fun b _ hb h=>hb (by injection h))
       have HC6:Hid (cntU C.sts.length (aboveW C.sts (tB C.sts) adB (pB C.sts H (C.sts.length+2)) a st2 x).b≤C.sts.length+2):=Lib.hid (Nat.le_trans (cntU_le _ (upW_up (pB_up C.sts H _) a (ups C.sts x) st2)) HC.out)
       clear hg6 he6
       go_wp2
       go_roundw
       case rel=>exact ⟨k+1,_,by omega,by go_num,HE6,HC6,HL6,HRK⟩
       case measure=>simp [intOf]; omega
     · obtain rfl:k=R.length:=by omega
       have hR:=HR.out
       rw [List.drop_length,List.foldl_nil] at hR
       have HRR:=Lib.hid hR
       clear hR
       have q3:=HE.out.cells.2.1
       go_wp2_with fail
       go_ret
       exact ⟨ret_int (by rw [HRES.out,HRR.out]),HB1.out.trans (HE.out.below.mono HB1.out.size)⟩


def stD (S:List St) (H:List Nat) (s:Int):List Int:=if histAt H s ≠ 0 then membU (bitN (histAt H s)) 32 else (stAt S s).ini


def gdA (a:Ans) (env:List Int):Bool × Bool :=
 match a with
  | .toks o=>match ans ⟨false,env,0⟩ o with
   | .ok k n=>if k=2 then (decide (n=1),false) else (false,true)
   | .bad _=>(false,true)
  | .form _=>(false,true)
  | .large=>(false,true)
def gdV (g:ByteArray) (env:List Int):Bool × Bool:=if g.size=0 then (true,false) else gdA (parseAns g.data.toList) env
def rdyV (env:List Int) (ev:Int) (t:Tr):Bool × Bool:=if t.ev=ev then gdV t.guard env else (false,false)
def trAt (R:List Tr) (i:Int):Tr:=R.getD i.toNat noTr
def isTr (R:List Tr) (i:Int):Bool:=decide (0≤i) && decide (i < (R.length:Int))
theorem isTr_iff {R:List Tr} {i:Int}:isTr R i=true ↔ 0≤i∧i < (R.length:Int):=by unfold isTr; simp
theorem isTr_nat {R:List Tr} {i:Int} (h:isTr R i=true):∃ k:Nat,i=(k:Int)∧k < R.length:=by
 have:=isTr_iff.1 h
 exact ⟨i.toNat,by omega,by omega⟩
theorem trAt_nat {R:List Tr} {k:Nat} (h:k < R.length):R[k]?=some (trAt R (k:Int)):=by
 unfold trAt
 simp [List.getD,List.getElem?_eq_getElem h]
section
variable (env:List Int) (ev:Int)
def frS (s:Int):List Tr→Nat→Nat→Int × Nat
 | [],_,n=>(-1,n)
 | t :: r,k,n=>if t.src=s then (if (rdyV env ev t).1=true then ((k:Int),n) else frS s r (k+1) (n+if (rdyV env ev t).2=true then 1 else 0)) else frS s r (k+1) n
def frA (R:List Tr):List Int→Nat→Int × Nat
 | [],n=>(-1,n)
 | s :: r,n=>if (frS env ev s R 0 n).1=-1 then frA R r (frS env ev s R 0 n).2 else frS env ev s R 0 n
theorem frS_le (s:Int):∀ (r:List Tr) (k n:Nat),(frS env ev s r k n).2≤n+r.length
 | [],k,n=>by simp [frS]
 | t :: r,k,n=>by
  rw [frS,List.length_cons]
  split
  · split
    · simp only; omega
    · refine Nat.le_trans (frS_le s r _ _) ?_
      split <;> omega
  · exact Nat.le_trans (frS_le s r _ _) (by omega)
theorem frA_le (R:List Tr):∀ (l:List Int) (n:Nat),(frA env ev R l n).2≤n+l.length * R.length
 | [],n=>by simp [frA]
 | s :: r,n=>by
  rw [frA,List.length_cons,Nat.succ_mul]
  have:=frS_le env ev s R 0 n
  split
  · exact Nat.le_trans (frA_le R r _) (by omega)
  · omega
end
def leafB (k:Int):Bool:=decide (k=1) || decide (k=4)
def leafP (S:List St) (n:Nat) (k:Nat):Bool:=bitN n k && leafB (stAt S (k:Int)).kind
def lvU (S:List St) (n k:Nat):List Int:=((List.range k).filter (leafP S n)).map fun j:Nat=>(j:Int)
def lvL (S:List St) (n:Nat):List Int:=lvU S n S.length
theorem lvU_succ (S:List St) (n k:Nat):lvU S n (k+1)=lvU S n k ++ if leafP S n k=true then [(k:Int)] else []:=by
 unfold lvU
 rw [List.range_succ,List.filter_append,List.map_append]
 by_cases h:leafP S n k=true
 · simp [h]
 · simp [h]
theorem lvU_len (S:List St) (n k:Nat):(lvU S n k).length≤k:=by
 unfold lvU
 rw [List.length_map]
 simpa using List.length_filter_le (leafP S n) (List.range k)
theorem lvL_is {S:List St} {n:Nat} {x:Int} (h:x ∈ lvL S n):isSt S x=true:=by
 unfold lvL lvU at h
 obtain ⟨k,hk,rfl⟩:=List.mem_map.1 h
 have:=List.mem_range.1 (List.mem_filter.1 hk).1
 unfold isSt
 simp
 omega
def wayL (S:List St) (s:Int):List Int:=s :: ups S s
section
variable (C:Ch) (env:List Int) (ev:Int)
def putIn (l:List Int) (i:Int):List Int:=if i=-1 ∨ l.contains i=true then l else l ++ [i]
def gaStep (a:List Int × Nat) (s:Int):List Int × Nat :=
 (putIn a.1 (frA env ev C.trs (wayL C.sts s) 0).1,a.2+(frA env ev C.trs (wayL C.sts s) 0).2)
def gaL (n:Nat):List Int × Nat:=(lvL C.sts n).foldl (gaStep C env ev) ([],0)
theorem putIn_len (l:List Int) (i:Int):(putIn l i).length≤l.length+1:=by
 unfold putIn
 split
 · omega
 · simp
end
structure Chc where
 num:Int
 src:Int
 left:Nat
def clB (k one:Chc):Bool:=decide (k.left &&& one.left ≠ 0)
def stayB (S:List St) (one k:Chc):Bool:=clB k one && !cIn S one.src k.src
def holdL (S:List St) (kept:List Chc) (one:Chc):List Chc:=if kept.any (stayB S one)=true then kept else kept.filter (fun k=>!clB k one) ++ [one]
section
variable (C:Ch) (lf:Int→Nat)
def chOf (i:Int):Chc:=⟨i,(trAt C.trs i).src,lf i⟩
def keptB (kept:List Chc) (i:Int):Bool:=kept.any fun k=>decide (k.num=i)
def siStep (kept:List Chc) (i:Int):List Chc:=if isTr C.trs i=true∧keptB kept i=false then holdL C.sts kept (chOf C lf i) else kept
def siL (l:List Int):List Chc:=l.foldl (siStep C lf) []
def Apt (kept:List Chc):Prop:=kept.Pairwise fun a b=>clB a b=false∧a.num ≠ b.num
theorem hold_mem {kept:List Chc} {one x:Chc} (h:x ∈ holdL C.sts kept one):x ∈ kept ∨ x=one:=by
 unfold holdL at h
 split at h
 · exact .inl h
 · rcases List.mem_append.1 h with h1 | h1
   · exact .inl (List.mem_filter.1 h1).1
   · exact .inr (List.mem_singleton.1 h1)
theorem hold_apt {kept:List Chc} {one:Chc} (h:Apt kept) (hn:keptB kept one.num=false):Apt (holdL C.sts kept one):=by
 unfold holdL
 split
 · exact h
 · refine List.pairwise_append.2 ⟨h.sublist List.filter_sublist,List.pairwise_singleton _ _,fun a ha b hb=>?_⟩
   obtain rfl:=List.mem_singleton.1 hb
   obtain ⟨h1,h2⟩:=List.mem_filter.1 ha
   refine ⟨by simpa using h2,fun he=>?_⟩
   unfold keptB at hn
   rw [List.any_eq_false] at hn
   exact hn a h1 (by simpa using he)
theorem hold_len (kept:List Chc) (one:Chc):(holdL C.sts kept one).length≤kept.length+1:=by
 unfold holdL
 split
 · omega
 · rw [List.length_append]
   have:=List.length_filter_le (fun k=>!clB k one) kept
   simp
   omega
theorem si_step (l0:List Int):∀ (l:List Int) (kept:List Chc),(∀ i ∈ l,i ∈ l0)→Apt kept→(∀ x ∈ kept,x=chOf C lf x.num∧x.num ∈ l0∧isTr C.trs x.num=true) →
 Apt (l.foldl (siStep C lf) kept)∧∀ x ∈ l.foldl (siStep C lf) kept,x=chOf C lf x.num∧x.num ∈ l0∧isTr C.trs x.num=true
 | [],kept,_,h1,h2=>⟨h1,h2⟩
 | i :: r,kept,h0,h1,h2=>by
  rw [List.foldl_cons]
  have h0':∀ j ∈ r,j ∈ l0:=fun j hj=>h0 j (List.mem_cons_of_mem _ hj)
  unfold siStep
  split
  · rename_i hc
    refine si_step l0 r _ h0' (hold_apt C h1 hc.2) fun x hx=>?_
    rcases hold_mem C hx with h | rfl
    · exact h2 x h
    · exact ⟨rfl,h0 i (List.mem_cons_self ..),hc.1⟩
  · exact si_step l0 r kept h0' h1 h2
theorem siL_apt (l:List Int):Apt (siL C lf l)∧∀ x ∈ siL C lf l,x=chOf C lf x.num∧x.num ∈ l∧isTr C.trs x.num=true :=
 si_step C lf l l [] (fun _ h=>h) List.Pairwise.nil (fun x h=>by cases h)
theorem si_len:∀ (l:List Int) (kept:List Chc),(l.foldl (siStep C lf) kept).length≤kept.length+l.length
 | [],kept=>by simp
 | i :: r,kept=>by
  rw [List.foldl_cons,List.length_cons]
  refine Nat.le_trans (si_len r _) ?_
  have:(siStep C lf kept i).length≤kept.length+1:=by
   unfold siStep
   split
   · exact hold_len C _ _
   · omega
  omega
end
end Go.Proofs.YtmhkpjcdkjnlnaaGreatDoor
