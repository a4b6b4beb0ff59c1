/- What a table is made of, as it is made ready from the last state on; the contracts of making's missing, initial and entered. -/
import Derived.Test.YtmhkpjcdkjnlnaaGreatDoorFWWset
namespace Go.Proofs.YtmhkpjcdkjnlnaaGreatDoor
open Go.ChangeShapes Go.WideShapes Go.ChangeAt Go.RowKit
set_option linter.unusedVariables false

def RdyC (S:List St) (cur:Array Value) (i:Nat):Prop :=
 cur[i * 5]?=some (.int .u32 ((bset (inL (ups S (i:Int))) S.length:Nat):Int))∧cur[i * 5+1]?=some (.int .u32 ((belowN S (i:Int):Nat):Int)) ∧
 cur[i * 5+2]?=some (.int .u32 ((bset (kidB S (i:Int)) S.length:Nat):Int))∧cur[i * 5+3]?=some (.int .u32 ((bset (defT S (i:Int)) S.length:Nat):Int))∧∃ A n c,cur[i * 5+4]?=some (.slice A n c)
def WTab (w:World) (g:Nat) (S:List St) (K:Nat):Prop:=∃ cur,Blk w g 100 cur∧cur.size=S.length * 5∧∀ i,K≤i→i < S.length→RdyC S cur i
theorem WTab.below {w w':World} {g:Nat} {S:List St} {K:Nat} (h:WTab w g S K) (hb:Below w.heap.size w w'):WTab w' g S K:=by
 obtain ⟨cur,h1,h2⟩:=h
 exact ⟨cur,h1.below hb h1.lt,h2⟩
theorem WTab.lt {w:World} {g:Nat} {S:List St} {K:Nat} (h:WTab w g S K):g < w.heap.size:=by
 obtain ⟨cur,h1,h2⟩:=h
 exact h1.lt
theorem WTab.apart {w:World} {g g':Nat} {S:List St} {K:Nat} (h:WTab w g S K) (hne:g ≠ g') (j:Nat) (u:Value):WTab (w.setCell ⟨g',j,none⟩ u) g S K:=by
 obtain ⟨cur,h1,h2⟩:=h
 exact ⟨cur,h1.set_ne hne j u,h2⟩
theorem WTab.cells {w:World} {g:Nat} {S:List St} {K:Nat} (h:WTab w g S K) {i:Nat} (hK:K≤i) (hi:i < S.length) :
 w.cell? ⟨g,i * 5,none⟩=some (.int .u32 ((bset (inL (ups S (i:Int))) S.length:Nat):Int))∧w.cell? ⟨g,i * 5+1,none⟩=some (.int .u32 ((belowN S (i:Int):Nat):Int)) ∧
 w.cell? ⟨g,i * 5+2,none⟩=some (.int .u32 ((bset (kidB S (i:Int)) S.length:Nat):Int))∧w.cell? ⟨g,i * 5+3,none⟩=some (.int .u32 ((bset (defT S (i:Int)) S.length:Nat):Int))∧∃ A n c,w.cell? ⟨g,i * 5+4,none⟩=some (.slice A n c):=by
 obtain ⟨cur,h1,h2,h3⟩:=h
 obtain ⟨a,b,c,d,A,n,cc,e⟩:=h3 i hK hi
 exact ⟨(h1.cell _).trans a,(h1.cell _).trans b,(h1.cell _).trans c,(h1.cell _).trans d,A,n,cc,(h1.cell _).trans e⟩
theorem WTab.put {w:World} {g:Nat} {S:List St} {K:Nat} (h:WTab w g S (K+1)) (hK:K < S.length) (A:Option Addr) (n c:Nat) :
 WTab (((((w.setCell ⟨g,K * 5,none⟩ (.int .u32 ((bset (inL (ups S (K:Int))) S.length:Nat):Int))).setCell ⟨g,K * 5+1,none⟩ (.int .u32 ((belowN S (K:Int):Nat):Int))).setCell ⟨g,K * 5+2,none⟩ (.int .u32 ((bset (kidB S (K:Int)) S.length:Nat):Int))).setCell ⟨g,K * 5+3,none⟩ (.int .u32 ((bset (defT S (K:Int)) S.length:Nat):Int))).setCell ⟨g,K * 5+4,none⟩ (.slice A n c)) g S K:=by
 obtain ⟨cur,h1,h2,h3⟩:=h
 refine ⟨_,((((h1.set_ _ _).set_ _ _).set_ _ _).set_ _ _).set_ _ _,by simpa using h2,fun i hi hl=>?_⟩
 by_cases he:i=K
 · subst he
   refine ⟨?_,?_,?_,?_,A,n,c,?_⟩ <;> simp [Array.getElem?_setIfInBounds] <;> omega
 · obtain ⟨a,b,c',d,A',n',c2,e⟩:=h3 i (by omega) hl
   refine ⟨?_,?_,?_,?_,A',n',c2,?_⟩
   · rw [← a]; iterate 5 rw [Array.getElem?_setIfInBounds_ne (by omega)]
   · rw [← b]; iterate 5 rw [Array.getElem?_setIfInBounds_ne (by omega)]
   · rw [← c']; iterate 5 rw [Array.getElem?_setIfInBounds_ne (by omega)]
   · rw [← d]; iterate 5 rw [Array.getElem?_setIfInBounds_ne (by omega)]
   · rw [← e]; iterate 5 rw [Array.getElem?_setIfInBounds_ne (by omega)]
structure WMk (w:World) (t g:Nat) (vs vt:Value) (C:Ch) (K:Nat):Prop where
 tree:TreeAt w t C
 chart:ChHas w vs vt C
 tab:WTab w g C.sts K
theorem WMk.below {w w':World} {t g:Nat} {vs vt:Value} {C:Ch} {K:Nat} (h:WMk w t g vs vt C K) (hb:Below w.heap.size w w'):WMk w' t g vs vt C K:=⟨h.tree.below hb,h.chart.below hb,h.tab.below hb⟩
abbrev mkV (t g:Nat) (vs vt:Value) (C:Ch):Value:=.agg #[.pointer (some ⟨t,0,none⟩),.int .i64 C.vars,vs,vt,.slice (some ⟨g,0,none⟩) C.sts.length C.sts.length]
abbrev mkCs (t g:Nat) (vs vt:Value) (C:Ch):Array Value:=#[.pointer (some ⟨t,0,none⟩),.int .i64 C.vars,vs,vt,.slice (some ⟨g,0,none⟩) C.sts.length C.sts.length]
abbrev mkBox (t g:Nat) (vs vt:Value) (C:Ch):Obj:=.cells (mkCs t g vs vt C) 134
theorem mk_later {w w1:World} {t g:Nat} {vs vt:Value} {C:Ch} (hb:Below (w.alloc (mkBox t g vs vt C)).heap.size (w.alloc (mkBox t g vs vt C)) w1) :
 w1.cell? ⟨w.heap.size,0,none⟩=some (.pointer (some ⟨t,0,none⟩))∧w1.cell? ⟨w.heap.size,1,none⟩=some (.int .i64 C.vars)∧w1.cell? ⟨w.heap.size,2,none⟩=some vs∧w1.cell? ⟨w.heap.size,3,none⟩=some vt∧w1.cell? ⟨w.heap.size,4,none⟩=some (.slice (some ⟨g,0,none⟩) C.sts.length C.sts.length) :=
 (blk5_facts ((Blk.new w 134 (mkCs t g vs vt C)).below hb (by simp))).1
def missU (S:List St) (p:Int) (A:Nat→Bool) (k:Nat):Nat→Bool:=fun y=>(List.range k).any fun j=>decide ((stAt S (j:Int)).par=p) && !someP S A (j:Int) && defT S (j:Int) y
theorem missU_succ (S:List St) (p:Int) (A:Nat→Bool) (k:Nat):missU S p A (k+1)=if (stAt S (k:Int)).par=p∧someP S A (k:Int)=false then orS (missU S p A k) (defT S (k:Int)) else missU S p A k:=by
 funext y
 unfold missU orS
 rw [List.range_succ,List.any_append,List.any_cons,List.any_nil,Bool.or_false]
 by_cases h1:(stAt S (k:Int)).par=p
 · cases h2:someP S A (k:Int) with
   | false=>rw [if_pos ⟨h1,rfl⟩]; simp [h1]
   | true=>rw [if_neg (by simp)]; simp
 · rw [if_neg (fun h=>h1 h.1)]; simp [h1]
theorem missU_all {S:List St} (hT:Tame S) {p:Int} {A:Nat→Bool} (hA:Plain S A):missU S p A S.length=missW S (defT S) p A:=by
 funext y
 unfold missU missW
 rw [Bool.eq_iff_iff]
 simp only [List.any_eq_true,Bool.and_eq_true,Bool.not_eq_true',decide_eq_true_eq]
 constructor
 · rintro ⟨j,h1,⟨h2,h3⟩,h4⟩
   have hl:=List.mem_range.1 h1
   have hh:histB (stAt S (j:Int)).kind=false:=by
    cases hh:histB (stAt S (j:Int)).kind with
    | false=>rfl
    | true=>unfold defT at h4; rw [if_pos hh] at h4; cases h4
   exact ⟨(j:Int),kids_mem.2 ⟨isSt_of hl,h2,hh⟩,by rw [← some_same hA]; exact h3,h4⟩
 · rintro ⟨k,hk,h3,h4⟩
   obtain ⟨h1,h2,hh⟩:=kids_mem.1 hk
   obtain ⟨j,rfl,hj⟩:=isSt_nat h1
   exact ⟨j,List.mem_range.2 hj,⟨h2,by rw [some_same hA]; exact h3⟩,h4⟩
section
variable {t g:Nat} {vs vt:Value} {C:Ch} {K:Nat} {w:World}
set_option maxHeartbeats 8000000 in
set_option maxRecDepth 100000 in
theorem missing_any (hM:WMk w t g vs vt C K) (hta:Tame C.sts) (p:Int) (hp:∀ k:Nat,k < C.sts.length→(stAt C.sts (k:Int)).par=p→K≤k) (A:Nat→Bool) (hA:Plain C.sts A) :
 Calls Tryz.prog 133 #[mkV t g vs vt C,.int .i64 p,.int .u32 ((bset A C.sts.length:Nat):Int)] w fun e w'=>e=.returned (.int .u32 ((bset (missW C.sts (defT C.sts) p A) C.sts.length:Nat):Int))∧Below w.heap.size w w':=by
 have hlen:=hta.len
 obtain ⟨sA,scap,tA,tcap,rfl,rfl⟩:=hM.chart.slices
 have HC:=Lib.hid hM.chart
 have HW:=Lib.hid hM.tab
 have HP:=Lib.hid hp
 have HR:=Lib.hid (missU_all hta (p:=p) hA)
 have HU:=Lib.hid (fun k=>missU_succ C.sts p A k)
 have HU0:Hid (missU C.sts p A 0=fun _=>false):=Lib.hid rfl
 have HAB:=Lib.hid (fun k:Nat=>and_below C.sts A (k:Int) (by omega))
 generalize missU C.sts p A=U at *
 generalize missW C.sts (defT C.sts) p A=R at *
 clear hM hta hp hA
 go_enter Tryz.func133,Tryz.ntmps133
 go_wp2_with fail
 go_loopw [7,14] (fun v i wr=>∃ (k:Nat),k≤C.sts.length∧i=.int .i64 (k:Int)∧v=.int .u32 ((bset (U k) C.sts.length:Nat):Int)∧Hid (Below (w.alloc (mkBox t g (.slice sA C.sts.length scap) (.slice tA C.trs.length tcap) C)).heap.size (w.alloc (mkBox t g (.slice sA C.sts.length scap) (.slice tA C.trs.length tcap) C)) wr)) (fun _ i _=>C.sts.length - (intOf i).toNat)
 case atStart =>
  refine ⟨0,Nat.zero_le _,rfl,?_,Lib.hid (Below.refl _ _)⟩
  rw [HU0.out,bset_empty]
  rfl
 case round =>
  obtain ⟨k,hk,rfl,rfl,HB⟩:=hrel
  obtain ⟨wo,rfl⟩:∃ wo:World,wo=wr:=⟨_,rfl⟩
  obtain ⟨x0,x1,x2,x3,x4⟩:=mk_later HB.out
  by_cases hlt:k < C.sts.length
  · obtain ⟨b,o,cap',vi,ve,vx,hsl,_,hbl,hst,hhas⟩:=HC.out.st hlt
    injection hsl with e1 e2 e3
    subst e1
    obtain ⟨c0,c1,c2,c3,c4⟩:=hst.below (below_boxed HB.out) hbl
    obtain ⟨iA,icap,eA,ecap,yA,ycap,rfl,rfl,rfl⟩:=hhas.slices
    have hu:=HU.out k
    generalize (stAt C.sts (k:Int)).kind=kd at *
    have HPP:Hid (∃ P,(stAt C.sts (k:Int)).par=P):=Lib.hid ⟨_,rfl⟩
    obtain ⟨P,hP⟩:=HPP.out
    rw [hP] at c1 hu
    generalize (stAt C.sts (k:Int)).ini.length=il at *
    generalize (stAt C.sts (k:Int)).ent.length=el at *
    generalize (stAt C.sts (k:Int)).exi.length=xl at *
    have HBN:=Lib.hid (HB.out.alloc HB.out.size (stBox kd P (.slice iA il icap) (.slice eA el ecap) (.slice yA xl ycap)))
    clear hst hhas e2 e3
    by_cases hp:P=p
    · have hp2:(P == p)=true:=by simpa using hp
      obtain ⟨-,d1,-,d3,-⟩:=(HW.out.below (below_boxed HBN.out)).cells (HP.out k hlt (hP.trans hp)) hlt
      obtain ⟨-,-,-,-,y4⟩:=mk_later HBN.out
      have hab:=HAB.out k
      cases hs:someP C.sts A (k:Int) with
      | true =>
       rw [if_neg (by rw [hs]; simp)] at hu
       rw [hs] at hab
       have HUK:=Lib.hid hu
       clear hu hs hP hp HPP
       go_wp2_with fail
       go_roundw
       case rel=>exact ⟨k+1,by omega,by go_num,by rw [HUK.out],HBN⟩
       case measure=>simp [intOf]; omega
      | false =>
       rw [if_pos ⟨hp,hs⟩] at hu
       rw [hs] at hab
       have hor:=wor_sets (U k) (defT C.sts (k:Int)) C.sts.length (by omega)
       rw [← hu] at hor
       have HOR:=Lib.hid hor
       generalize bset (U k) C.sts.length=B at *
       generalize bset (defT C.sts (k:Int)) C.sts.length=B2 at *
       clear hu hs hP hp hor HPP
       go_wp2_with fail
       go_roundw
       case rel=>exact ⟨k+1,by omega,by go_num,by rw [← HOR.out],HBN⟩
       case measure=>simp [intOf]; omega
    · have hp2:(P == p)=false:=by simpa using hp
      rw [if_neg (fun h=>hp h.1)] at hu
      have HUK:=Lib.hid hu
      clear hu hP hp HPP
      go_wp2_with fail
      go_roundw
      case rel=>exact ⟨k+1,by omega,by go_num,by rw [HUK.out],HBN⟩
      case measure=>simp [intOf]; omega
  · obtain rfl:k=C.sts.length:=by omega
    go_wp2_with fail
    go_ret
    exact ⟨ret_int (by rw [HR.out]),below_boxed HB.out⟩
theorem upOne_plain {S:List St} (hT:Tame S) {p:Int} (hp:isSt S p=true) (hh:histB (stAt S p).kind=false) {L:Nat→Bool} (hL:Plain S L):Plain S (addS L p)∧Plain S (upOne S (defT S) p L):=by
 have h1:Plain S (addS L p):=fun k hk=>by
  unfold addS at hk
  simp only [Bool.or_eq_true,decide_eq_true_eq] at hk
  rcases hk with hk | hk
  · exact hL k hk
  · rw [hk]; exact hh
 refine ⟨h1,?_⟩
 unfold upOne
 split
 · intro k hk
   unfold orS at hk
   rcases Bool.or_eq_true_iff.1 hk with hk | hk
   · exact h1 k hk
   · unfold missW at hk
     obtain ⟨j,hj,h⟩:=List.any_eq_true.1 hk
     rw [Bool.and_eq_true] at h
     exact defT_plain hT (hT.kid_up (isSt_iff.1 hp).1 hj).1 k h.2
 · exact h1
theorem kid_after {S:List St} (hT:Tame S) {k:Nat} (hk:k < S.length) {p:Int} (h:(stAt S (k:Int)).par=p) (hp:0≤p):p < (k:Int):=by
 have e:=hT.par (k:Int) (isSt_of hk)
 rw [h] at e
 have:=cUp_pos (S:=S) (s:=(k:Int)) (by omega)
 omega
set_option maxHeartbeats 8000000 in
set_option maxRecDepth 100000 in
theorem initial_any (hM:WMk w t g vs vt C K) (hta:Tame C.sts) (hR:Rooted C.sts) (s:Nat) (hs:s < C.sts.length) (hK:K≤s+1) (f:Int) (hi:(stAt C.sts (s:Int)).ini=[f]) (hf:isSt C.sts f=true) (hin:cIn C.sts f (s:Int)=true) :
 Calls Tryz.prog 132 #[mkV t g vs vt C,.int .i64 (s:Int)] w fun e w'=>e=.returned (.int .u32 ((bset (upT C.sts (defT C.sts) (s:Int) (ups C.sts f) (defT C.sts f)) C.sts.length:Nat):Int))∧Below w.heap.size w w':=by
 have hlen:=hta.len
 obtain ⟨sA,scap,tA,tcap,rfl,rfl⟩:=hM.chart.slices
 obtain ⟨j,rfl,hj⟩:=isSt_nat hf
 have hsj:s < j:=by have:=cIn_range hin; omega
 have HM:=Lib.hid hM
 have HTA:=Lib.hid hta
 have HRT:=Lib.hid hR
 have HB0:=Lib.hid (below_box w (mkBox t g (.slice sA C.sts.length scap) (.slice tA C.trs.length tcap) C))
 obtain ⟨b,o,cap',vi,ve,vx,hsl,_,hbl,hst,hhas⟩:=hM.chart.st hs
 injection hsl with e1 e2 e3
 subst e1
 have hst':=hst.below HB0.out hbl
 obtain ⟨c0,c1,c2,c3,c4⟩:=hst'
 have hL:=(hhas.1.below HB0.out)
 rw [hi] at hL
 obtain ⟨iA,icap,rfl,_,he⟩:=hL
 obtain ⟨ib,io,rfl,ibl,hic⟩:=he 0 (j:Int) rfl
 have d0:(w.alloc (mkBox t g (.slice (some ⟨b,o,none⟩) C.sts.length scap) (.slice tA C.trs.length tcap) C)).cell? ⟨ib,io,none⟩=some (.int .i64 (j:Int)):=by have:=hic; unfold IntAt at this; simpa using this
 obtain ⟨-,-,-,t3,-⟩:=(hM.tab.below HB0.out).cells (i:=j) (by omega) hj
 have HUP:=Lib.hid (upsT_any t (j:Int) C (w.alloc (mkBox t g (.slice (some ⟨b,o,none⟩) C.sts.length scap) (.slice tA C.trs.length tcap) C)) (hM.tree.below HB0.out) (by omega) hR)
 have HMEM:Hid (∀ q ∈ ups C.sts (j:Int),isSt C.sts q=true∧histB (stAt C.sts q).kind=false):=Lib.hid (fun q hq=>⟨(up_state hta hq).1,(up_state hta hq).2.1⟩)
 have HAH:Hid (∀ q ∈ (ups C.sts (j:Int)).takeWhile (fun x=>decide (x ≠ (s:Int))),cIn C.sts q (s:Int)=true):=Lib.hid (ups_ahead hin)
 have HLN:Hid ((ups C.sts (j:Int)).length≤24):=Lib.hid (Nat.le_trans (ups_short C.sts (j:Int)) hlen)
 have HPL:=Lib.hid (defT_plain hta hf)
 obtain ⟨R,hRR⟩:∃ R,R=upT C.sts (defT C.sts) (s:Int) (ups C.sts (j:Int)) (defT C.sts (j:Int)):=⟨_,rfl⟩
 rw [← hRR]
 have HR:=Lib.hid hRR
 generalize ups C.sts (j:Int)=path at *
 obtain ⟨x0,x1,x2,x3,x4⟩:=mk_later (Below.refl (w.alloc (mkBox t g (.slice (some ⟨b,o,none⟩) C.sts.length scap) (.slice tA C.trs.length tcap) C)).heap.size (w.alloc (mkBox t g (.slice (some ⟨b,o,none⟩) C.sts.length scap) (.slice tA C.trs.length tcap) C)))
 clear hst hhas he hic e2 e3 hM hta hR hin hf hRR
 go_enter Tryz.func132,Tryz.ntmps132
 go_wp2_with fail
 refine HUP.out.mono ?_
 rintro e w1 ⟨hb1,v,rfl,ho1⟩
 obtain ⟨pA,pcap,rfl,hpcap,hpe⟩:=list_of_own ho1
 have HE:=Lib.hid hpe
 have HB1:=Lib.hid hb1
 have hpl:path.length≤24:=HLN.out
 clear ho1 hpe hb1 x0 x1 x2 x3 x4 c0 c1 c2 c3 c4 d0 t3 HUP
 obtain ⟨x0,x1,x2,x3,x4⟩:=mk_later HB1.out
 go_wp2_with fail
 go_loopw [6,29] (fun v i wr=>∃ (k:Nat) (L:Nat→Bool),k≤path.length∧i=.int .i64 (k:Int)∧v=.int .u32 ((bset L C.sts.length:Nat):Int)∧Hid (Plain C.sts L)∧Hid (R=upT C.sts (defT C.sts) (s:Int) (path.drop k) L)∧Hid (∀ q ∈ (path.drop k).takeWhile (fun x=>decide (x ≠ (s:Int))),cIn C.sts q (s:Int)=true)∧Hid (Below w1.heap.size w1 wr)) (fun _ i _=>path.length - (intOf i).toNat)
 case atStart=>exact ⟨0,_,Nat.zero_le _,rfl,rfl,HPL,HR,HAH,Lib.hid (Below.refl _ _)⟩
 case round =>
  clear HPL HR HAH x0 x1 x2 x3 x4
  obtain ⟨k,L,hk,rfl,rfl,HPL,HR,HAH,HB⟩:=hrel
  obtain ⟨wo,rfl⟩:∃ wo:World,wo=wr:=⟨_,rfl⟩
  have HB2:=Lib.hid (HB1.out.trans (HB.out.mono HB1.out.size))
  obtain ⟨x0,x1,x2,x3,x4⟩:=mk_later HB2.out
  by_cases hlt:k < path.length
  · obtain ⟨pb,po,hpA,pbl,hpc⟩:=HE.out k _ (List.getElem?_eq_getElem hlt)
    subst hpA
    have c0:wo.cell? ⟨pb,po+k,none⟩=some (.int .i64 path[k]):=by have:=(HB.out.cell (p:=⟨pb,po+k * 1,none⟩) pbl).trans hpc; rwa [Nat.mul_one] at this
    obtain ⟨hq1,hq2⟩:=HMEM.out _ (List.getElem_mem hlt)
    have hR2:=HR.out
    have hA2:=HAH.out
    rw [List.drop_eq_getElem_cons hlt] at hR2 hA2
    rw [upT] at hR2
    generalize path[k]=q at *
    obtain ⟨qn,rfl,hqn⟩:=isSt_nat hq1
    by_cases hqs:qn=s
    · subst hqs
      rw [if_pos rfl] at hR2
      have hqe:((qn:Int) == (qn:Int))=true:=by simp
      have HRR:=Lib.hid hR2
      clear hR2 hA2 hpc
      go_wp2_with fail
      go_ret
      exact ⟨ret_int (by rw [HRR.out]),(below_boxed HB2.out)⟩
    · have hqe:((qn:Int) == (s:Int))=false:=beq_false_of_ne (by omega)
      have hqs':¬ (qn:Int)=(s:Int):=by omega
      rw [if_neg hqs'] at hR2
      rw [List.takeWhile_cons,if_pos (by simpa using hqs')] at hA2
      have hcs:=hA2 _ (List.mem_cons_self ..)
      have HA3:Hid (∀ q ∈ (path.drop (k+1)).takeWhile (fun x=>decide (x ≠ (s:Int))),cIn C.sts q (s:Int)=true):=Lib.hid fun q hq=>hA2 q (List.mem_cons_of_mem _ hq)
      have HKD:=Lib.hid (fun (W:World) (hb:Below w.heap.size w W)=>kindT_any t (qn:Int) C W (HM.out.tree.below hb) (by omega))
      have hkd:kindT C.sts (qn:Int)=(stAt C.sts (qn:Int)).kind:=by unfold kindT; rw [if_pos hq1]
      rw [hkd] at HKD
      obtain ⟨hp1,hp2⟩:=upOne_plain HTA.out hq1 hq2 HPL.out
      have HRR:=Lib.hid hR2
      have HPA:=Lib.hid hp1
      have HPU:=Lib.hid hp2
      have hor:=or_add L C.sts.length qn (by omega) hqn
      have HOR:=Lib.hid hor
      have HAP:Hid (∀ k:Nat,k < C.sts.length→(stAt C.sts (k:Int)).par=(qn:Int)→K≤k):=Lib.hid (fun k hk h=>by
       have h1:=kid_after HTA.out hk h (by omega)
       have h2:=cIn_range hcs
       omega)
      have HUO:Hid (upOne C.sts (defT C.sts) (qn:Int) L=if (stAt C.sts (qn:Int)).kind=3 then orS (addS L (qn:Int)) (missW C.sts (defT C.sts) (qn:Int) (addS L (qn:Int))) else addS L (qn:Int)):=Lib.hid rfl
      generalize upOne C.sts (defT C.sts) (qn:Int) L=L2 at *
      have HB3:=Lib.hid (below_boxed HB2.out)
      clear hR2 hA2 hpc hkd hp1 hp2 hor hcs
      by_cases hk3:(stAt C.sts (qn:Int)).kind=3
      · have HU3:Hid (L2=orS (addS L (qn:Int)) (missW C.sts (defT C.sts) (qn:Int) (addS L (qn:Int)))):=Lib.hid (by rw [HUO.out,if_pos hk3])
        rw [hk3] at HKD
        have HOS:=Lib.hid (wor_sets (addS L (qn:Int)) (missW C.sts (defT C.sts) (qn:Int) (addS L (qn:Int))) C.sts.length (by omega))
        rw [← HU3.out] at HOS
        have HMS:=Lib.hid (missing_any (HM.out.below HB3.out) HTA.out (qn:Int) HAP.out _ HPA.out)
        generalize bset (missW C.sts (defT C.sts) (qn:Int) (addS L (qn:Int))) C.sts.length=B3 at *
        generalize bset (addS L (qn:Int)) C.sts.length=B2 at *
        generalize bset L C.sts.length=B1 at *
        clear hk3
        go_wp2_with fail
        refine (bitW_any qn (by omega) _).mono ?_
        rintro e w2 ⟨rfl,rfl⟩
        go_wp2_with fail
        refine (HKD.out _ HB3.out).mono ?_
        rintro e w2 ⟨rfl,rfl⟩
        have hOR:=HOR.out
        go_wp2_with fail
        refine HMS.out.mono ?_
        rintro e w3 ⟨rfl,hb3⟩
        have HB4:=Lib.hid (HB.out.trans (hb3.mono HB.out.size))
        clear hb3 x0 x1 x2 x3 x4 c0
        go_wp2_with fail
        go_roundw
        case rel=>exact ⟨k+1,L2,by omega,by go_num,by rw [← HOS.out],HPU,HRR,HA3,HB4⟩
        case measure=>simp [intOf]; omega
      · have HU3:Hid (L2=addS L (qn:Int)):=Lib.hid (by rw [HUO.out,if_neg hk3])
        have hkb:((stAt C.sts (qn:Int)).kind == 3)=false:=by simpa using hk3
        rw [← HU3.out] at HOR
        generalize (stAt C.sts (qn:Int)).kind=kd at *
        generalize bset L C.sts.length=B1 at *
        clear hk3
        go_wp2_with fail
        refine (bitW_any qn (by omega) _).mono ?_
        rintro e w2 ⟨rfl,rfl⟩
        go_wp2_with fail
        refine (HKD.out _ HB3.out).mono ?_
        rintro e w2 ⟨rfl,rfl⟩
        go_wp2_with fail
        go_roundw
        case rel=>exact ⟨k+1,L2,by omega,by go_num,by rw [← HOR.out],HPU,HRR,HA3,HB⟩
        case measure=>simp [intOf]; omega
  · obtain rfl:k=path.length:=by omega
    have hR2:=HR.out
    rw [List.drop_length,upT] at hR2
    have HRR:=Lib.hid hR2
    clear hR2
    go_wp2_with fail
    go_ret
    exact ⟨ret_int (by rw [HRR.out]),below_boxed HB2.out⟩
end
end Go.Proofs.YtmhkpjcdkjnlnaaGreatDoor
