/- The head of layer 12's statements (spinetlaw12.up): it holds. -/
import Derived.Test.YtgofpbdbeegoeaaGreatDoorFWIbf
import Derived.Test.YtgofpbdbeegoeaaGreatDoorFWImem
import Derived.Test.YtgofpbdbeegoeaaGreatDoorFWHrd
import Derived.Test.YtgofpbdbeegoeaaGreatDoorFWMsn
import Derived.Test.YtgofpbdbeegoeaaGreatDoorFWIst
namespace Go.Proofs.YtgofpbdbeegoeaaGreatDoor
open Go.ChangeShapes Go.WideShapes Go.ChangeAt Go.RowKit
set_option linter.unusedVariables false

theorem npost_no {C:Ch} {w w':World} {e:Ending} (h:NPost C w e w') (hn:¬ chk hasTB C=.ok):Below w.heap.size w w'∧((∃ p,e=.returned (.tuple #[.pointer none,.iface 109 p])) ∨ ∃ p,e=.returned (.tuple #[.pointer none,.iface 111 p])):=by
 unfold NPost at h
 cases hc:chk hasTB C with
 | ok=>exact absurd hc hn
 | large =>
  rw [hc] at h
  exact ⟨h.1,.inl ⟨_,h.2⟩⟩
 | spot k c =>
  rw [hc] at h
  obtain ⟨hb,g,he,_⟩:=h
  exact ⟨hb,.inr ⟨_,he⟩⟩
theorem npost_yes {C:Ch} {w w':World} {e:Ending} (h:NPost C w e w') (hk:chk hasTB C=.ok):Below w.heap.size w w'∧∃ g,e=.returned (.tuple #[.pointer (some ⟨g,0,none⟩),.nilIface])∧w.heap.size≤g∧TreeAt w' g C:=by
 unfold NPost at h
 rw [hk] at h
 exact h
def chB:Ch:=⟨0,[⟨2,-1,[1],[],[]⟩,⟨4,0,[],[],[]⟩],[]⟩
theorem chkB:chk hasTB chB=.ok:=by kernel_rfl
theorem fewB_B:fewB chB=true:=by kernel_rfl
theorem fstB_a:((bset (fstS chB).a chB.sts.length:Nat):Int)=3:=by kernel_rfl
theorem fstB_st:(fstS chB).st=2:=by kernel_rfl
theorem fstB_out:(fstS chB).out=[]:=by kernel_rfl
abbrev twoCellsB (vi:Value):Array Value:=#[.int .i64 2,.int .i64 (-1),vi,.slice none 0 0,.slice none 0 0,.int .i64 4,.int .i64 0,.slice none 0 0,.slice none 0 0,.slice none 0 0]
abbrev stTwoB (vi:Value):Obj:=.cells (twoCellsB vi) 65
theorem up_hasB {W:World} {g0 g1:Nat} (h0:Blk W g0 3 #[.int .i64 1]) (h:Blk W g1 65 (twoCellsB (.slice (some ⟨g0,0,none⟩) 1 1))):ChHas W (.slice (some ⟨g1,0,none⟩) 2 2) (.slice none 0 0) chB:=by
 have hL:ListAt W (.slice (some ⟨g0,0,none⟩) 1 1) [1]:=one_list g0 h0
 refine ⟨⟨_,2,rfl,Nat.le_refl _,fun i x hx=>?_⟩,RowsAt.nil W⟩
 match i,hx with
 | 0,hx =>
  simp [chB] at hx
  subst hx
  exact ⟨g1,0,rfl,h.lt,_,_,_,⟨h.cell 0,h.cell 1,h.cell 2,h.cell 3,h.cell 4⟩,hL,RowsAt.nil W,RowsAt.nil W⟩
 | 1,hx =>
  simp [chB] at hx
  subst hx
  exact ⟨g1,0,rfl,h.lt,_,_,_,⟨h.cell 5,h.cell 6,h.cell 7,h.cell 8,h.cell 9⟩,RowsAt.nil W,RowsAt.nil W,RowsAt.nil W⟩
 | i+2,hx=>simp [chB] at hx
theorem field_run4 (a b c d e:Value) (w:World):Sem.run Tryz.prog (Instr.field 31 (.agg #[a,b,c,d,e]) 4) w=.ok e w:=by
 unfold Instr.field
 have h:=Tryz.underlying31
 simp [go_sem,asAgg]
set_option maxHeartbeats 8000000 in
set_option maxRecDepth 100000 in
theorem upI_any (w:World) (hL:Laid w):Calls Tryz.prog 7 #[] w fun e w'=>e=.returned (.bool true)∧Below w.heap.size w w':=by
 have hnn:=neq_nil_nil
 have HL:=Lib.hid hL
 clear hL
 have hk0:=(Blk.new w 3 #[.int .i64 1]).alloc (stTwoB (.slice (some ⟨w.heap.size,0,none⟩) 1 1))
 have hk1:=Blk.new_at (w.alloc (.cells #[.int .i64 1] 3)) 65 (twoCellsB (.slice (some ⟨w.heap.size,0,none⟩) 1 1)) (w.heap.size+1) (by simp)
 have HB0:=Lib.hid (((Below.refl w.heap.size w).alloc (Nat.le_refl _) (.cells #[.int .i64 1] 3)).alloc (by simp) (stTwoB (.slice (some ⟨w.heap.size,0,none⟩) 1 1)))
 have HC:=Lib.hid (up_hasB hk0 hk1)
 clear hk0 hk1
 go_enter Tryz.func7,Tryz.ntmps7
 go_wp2_with fail
 refine (new_any _ _ chB _ (HL.out.after HB0.out) HC.out fewB_B).mono ?_
 intro e w1 hp
 obtain ⟨hb1,t,rfl,_,hT⟩:=npost_yes hp chkB
 have HB1:=Lib.hid (HB0.out.trans (hb1.mono HB0.out.size))
 have HT1:=Lib.hid hT
 have hno:=fun W=>nilT_no t W
 have HL1:=Lib.hid (HL.out.after HB1.out)
 clear hb1 hT hp HC HB0 HL
 go_wp2_with fail
 refine (mfirst_any t chB w1 HL1.out HT1.out chkB fewB_B).mono ?_
 rintro e w2 ⟨hb2,v2,vo2,rfl,hro2⟩
 have hr2:=hro2.run
 have ho2:=hro2.outs
 clear hro2
 obtain ⟨vh2,ve2,vi2,rfl,h1,h2,h3⟩:=hr2
 obtain ⟨hA,hcap,rfl,-⟩:=RowsAt.slice h1
 obtain ⟨eA,ecap,rfl,-⟩:=RowsAt.slice (rows_of_nums h2)
 obtain ⟨iA,icap,rfl,-⟩:=RowsAt.slice h3
 clear h1 h2 h3
 generalize (fstS chB).hist.length=hl at *
 generalize (fstS chB).env.length=el at *
 generalize (fstS chB).ins.length=il at *
 obtain ⟨oA,ocap,rfl,-⟩:=ho2
 rw [fstB_a,fstB_st,fstB_out]
 have HB2:=Lib.hid (HB1.out.trans (hb2.mono HB1.out.size))
 have HT2:=Lib.hid (HT1.out.below hb2)
 clear hb2
 go_wp2_with fail
 have HX2:=Lib.hid (Blk.new w2 31 #[.int .u32 3,.slice hA hl hcap,.slice eA el ecap,.slice iA il icap,.int .i64 2])
 have HB3:=Lib.hid (HB2.out.alloc HB2.out.size (.cells #[.int .u32 3,.slice hA hl hcap,.slice eA el ecap,.slice iA il icap,.int .i64 2] 31))
 have HT3:=Lib.hid (HT2.out.below (below_box w2 (.cells #[.int .u32 3,.slice hA hl hcap,.slice eA el ecap,.slice iA il icap,.int .i64 2] 31)))
 generalize w2.alloc (.cells #[.int .u32 3,.slice hA hl hcap,.slice eA el ecap,.slice iA il icap,.int .i64 2] 31)=w3 at *
 refine (mfirstNil_any _).mono ?_
 rintro e w4 ⟨rfl,hb4⟩
 have HX4:=Lib.hid ((HX2.out.below hb4 HX2.out.lt).alloc (.cells #[.int .u32 0,.slice none 0 0,.slice none 0 0,.slice none 0 0,.int .i64 0] 31))
 have HY4:=Lib.hid (Blk.new w4 31 #[.int .u32 0,.slice none 0 0,.slice none 0 0,.slice none 0 0,.int .i64 0])
 have HB4:=Lib.hid ((HB3.out.trans (hb4.mono HB3.out.size)).alloc (HB3.out.trans (hb4.mono HB3.out.size)).size (.cells #[.int .u32 0,.slice none 0 0,.slice none 0 0,.slice none 0 0,.int .i64 0] 31))
 have HT4:=Lib.hid ((HT3.out.below hb4).below (below_box w4 (.cells #[.int .u32 0,.slice none 0 0,.slice none 0 0,.slice none 0 0,.int .i64 0] 31)))
 have y0:=HX4.out.cell 0
 have y4:=HX4.out.cell 4
 clear hb4
 go_wp2_with fail
 refine (begin_any t chB _ HT4.out chkB fewB_B).mono ?_
 rintro e w5 ⟨hb5,v5,rfl,hr5⟩
 obtain ⟨vh5,ve5,vi5,rfl,h1,h2,h3⟩:=hr5
 have HB5:=Lib.hid (HB4.out.trans (hb5.mono HB4.out.size))
 have z4:=(HY4.out.below hb5 HY4.out.lt).cell 4
 have hst:(beg chB).st=1:=rfl
 rw [hst]
 have hfl:=fun a b c d e W=>field_run4 a b c d e W
 clear hb5 h1 h2 h3 y0 y4
 go_wp2_with fail
 go_ret
 exact ⟨rfl,HB5.out⟩

section
variable (C:Ch)
def leftQ (n:Nat) (l:List Int) (m k:Nat):Bool:=(List.range m).any fun i=>l.contains (i:Int) && bitN (leftN C n (i:Int)) k
def entQ (H:List Nat) (l:List Int) (m k:Nat):Bool:=(List.range m).any fun i=>decide ((trAt C.trs (i:Int)).tgts ≠ []) && (l.contains (i:Int) && (pSet C.sts H (rchL C (i:Int)) (trAt C.trs (i:Int)).tgts).a k)
end
def actP (S:List St) (a:Nat→Bool) (h:Int):Nat→Bool:=fun k =>
 if (stAt S h).kind=5 then decide ((stAt S (k:Int)).par=(stAt S h).par) && a k else (a k && leafK S (k:Int)) && cIn S (k:Int) (stAt S h).par
def recU (S:List St) (Q a:Nat→Bool):Nat→List Nat→List Nat
 | 0,H=>H
 | m+1,H=>if histB (stAt S (m:Int)).kind=true∧Q (stAt S (m:Int)).par.toNat=true then (recU S Q a m H).set m (bset (actP S a (m:Int)) S.length) else recU S Q a m H
theorem recU_len (S:List St) (Q a:Nat→Bool):∀ (m:Nat) (H:List Nat),(recU S Q a m H).length=H.length
 | 0,H=>rfl
 | m+1,H=>by
  rw [recU]
  split
  · rw [List.length_set,recU_len S Q a m H]
  · exact recU_len S Q a m H
theorem recU_at (S:List St) (Q a:Nat→Bool) (H:List Nat):∀ (m k:Nat),k < H.length→(recU S Q a m H).getD k 0=if k < m∧histB (stAt S (k:Int)).kind=true∧Q (stAt S (k:Int)).par.toNat=true then bset (actP S a (k:Int)) S.length else H.getD k 0
 | 0,k,hk=>by rw [recU,if_neg (by omega)]
 | m+1,k,hk=>by
  have ih:=recU_at S Q a H m k hk
  rw [recU]
  split
  · rename_i hc
    by_cases hkm:k=m
    · subst hkm
      rw [if_pos ⟨by omega,hc⟩,List.getD_eq_getElem?_getD,List.getElem?_set_self (by rw [recU_len]; exact hk)]
      rfl
    · rw [List.getD_eq_getElem?_getD,List.getElem?_set_ne (Ne.symm hkm),← List.getD_eq_getElem?_getD,ih]
      have:(k < m+1)=(k < m):=by
       apply propext
       omega
      simp only [this]
  · rename_i hc
    rw [ih]
    by_cases hkm:k=m
    · subst hkm
      rw [if_neg (fun h=>by omega),if_neg (fun h=>hc h.2)]
    · have:(k < m+1)=(k < m):=by
       apply propext
       omega
      simp only [this]
def offS (S:List St) (k:Nat) (X:Se):Se:=(doS (stAt S (k:Int)).exi X).putA fun j=>X.a j && decide (j ≠ k)
def offU (S:List St) (Q:Nat→Bool):Nat→Se→Se
 | 0,X=>X
 | d+1,X=>if Q (S.length - 1 - d)=true then offS S (S.length - 1 - d) (offU S Q d X) else offU S Q d X
theorem offS_hist (S:List St) (k:Nat) (X:Se):(offS S k X).hist=X.hist:=rfl
theorem offU_hist (S:List St) (Q:Nat→Bool):∀ (d:Nat) (X:Se),(offU S Q d X).hist=X.hist
 | 0,X=>rfl
 | d+1,X=>by
  rw [offU]
  split
  · rw [offS_hist,offU_hist S Q d X]
  · exact offU_hist S Q d X
theorem offU_a (S:List St) (Q:Nat→Bool):∀ (d:Nat) (X:Se),d≤S.length→∀ k,k < S.length→(offU S Q d X).a k=(X.a k && !(decide (S.length - d≤k) && Q k))
 | 0,X,_,k,hk=>by
  have:¬ S.length≤k:=by omega
  rw [offU]
  simp [this]
 | d+1,X,hd,k,hk=>by
  have ih:=offU_a S Q d X (by omega) k hk
  rw [offU]
  split
  · rename_i hQ
    show ((offU S Q d X).a k && decide (k ≠ S.length - 1 - d))=_
    rw [ih]
    by_cases hkd:k=S.length - 1 - d
    · have h1:S.length - (d+1)≤k:=by omega
      rw [← hkd] at hQ
      simp [hkd.symm,h1,hQ]
    · have h2:decide (S.length - (d+1)≤k)=decide (S.length - d≤k):=by simp; omega
      rw [h2]
      simp [hkd]
  · rename_i hQ
    rw [ih]
    by_cases hkd:k=S.length - 1 - d
    · have h1:Q k=false:=by rw [hkd]; simpa using hQ
      rw [h1]
      simp
    · have h2:decide (S.length - (d+1)≤k)=decide (S.length - d≤k):=by simp; omega
      rw [h2]
theorem offU_lim {S:List St} (hA:∀ s,(stAt S s).exi.length≤40) {n:Nat} {X:Se} (Q:Nat→Bool) (h:Lim n X):∀ d:Nat,Lim (n+d) (offU S Q d X)
 | 0=>h
 | d+1=>by
  have ih:=offU_lim hA Q h d
  rw [offU]
  split
  · exact putA_lim (doS_lim ih (hA _)) _
  · exact ih.mono (by omega)
def acU (R:List Tr) (l:List Int):Nat→Se→Se
 | 0,X=>X
 | m+1,X=>doS (trAt R (l.getD m 0)).acts (acU R l m X)
theorem acU_hist (R:List Tr) (l:List Int):∀ (m:Nat) (X:Se),(acU R l m X).hist=X.hist
 | 0,X=>rfl
 | m+1,X=>acU_hist R l m X
theorem acU_a (R:List Tr) (l:List Int):∀ (m:Nat) (X:Se),(acU R l m X).a=X.a
 | 0,X=>rfl
 | m+1,X=>acU_a R l m X
theorem acU_lim {R:List Tr} {l:List Int} (hA:∀ i,(trAt R i).acts.length≤40) {n:Nat} {X:Se} (h:Lim n X):∀ m:Nat,Lim (n+m) (acU R l m X)
 | 0=>h
 | m+1=>doS_lim (acU_lim hA h m) (hA _)
def lvS (S:List St) (Q:Nat→Bool) (X:Se):Se:=offU S Q S.length (X.putH (recU S Q X.a S.length X.hist))
def stpS (C:Ch) (l:List Int) (X:Se):Se :=
 let X3:=acU C.trs l l.length (lvS C.sts (leftQ C (bset X.a C.sts.length) l C.trs.length) X)
 entU C.sts (fun k=>entQ C X3.hist l C.trs.length k && !X3.a k) C.sts.length X3
theorem stpS_hist (C:Ch) (l:List Int) (X:Se):(stpS C l X).hist=recU C.sts (leftQ C (bset X.a C.sts.length) l C.trs.length) X.a C.sts.length X.hist:=by
 unfold stpS
 simp only
 rw [entU_hist,acU_hist]
 unfold lvS
 rw [offU_hist]
 rfl
theorem stpS_a (C:Ch) (l:List Int) (X:Se) {k:Nat} (hk:k < C.sts.length) :
 (stpS C l X).a k=((X.a k && !leftQ C (bset X.a C.sts.length) l C.trs.length k) || entQ C (stpS C l X).hist l C.trs.length k):=by
 have hh:(acU C.trs l l.length (lvS C.sts (leftQ C (bset X.a C.sts.length) l C.trs.length) X)).hist=(stpS C l X).hist:=by
  rw [stpS_hist,acU_hist]
  unfold lvS
  rw [offU_hist]
  rfl
 have ha:(acU C.trs l l.length (lvS C.sts (leftQ C (bset X.a C.sts.length) l C.trs.length) X)).a k=(X.a k && !leftQ C (bset X.a C.sts.length) l C.trs.length k):=by
  rw [acU_a]
  unfold lvS
  rw [offU_a _ _ _ _ (Nat.le_refl _) k hk]
  show (X.a k && _)=_
  have:C.sts.length - C.sts.length≤k:=by omega
  simp
 have he:(stpS C l X).a k=((acU C.trs l l.length (lvS C.sts (leftQ C (bset X.a C.sts.length) l C.trs.length) X)).a k || (decide (k < C.sts.length) && (entQ C (acU C.trs l l.length (lvS C.sts (leftQ C (bset X.a C.sts.length) l C.trs.length) X)).hist l C.trs.length k && !(acU C.trs l l.length (lvS C.sts (leftQ C (bset X.a C.sts.length) l C.trs.length) X)).a k))):=entU_a _ _ _ _ _
 rw [he,hh,ha,decide_eq_true hk]
 cases X.a k && !leftQ C (bset X.a C.sts.length) l C.trs.length k <;> simp

theorem isHistM_any (k:Int) (w:World):Calls Tryz.prog 125 #[.int .i64 k] w fun e w'=>e=.returned (.bool (histB k))∧w=w':=by
 go_enter Tryz.func125,Tryz.ntmps125
 by_cases h5:k=5
 · subst h5
   go_wp2_with fail
   go_ret
   exact ⟨rfl,rfl⟩
 · have h5b:(k == 5)=false:=by simpa using h5
   by_cases h6:k=6
   · subst h6
     go_wp2_with fail
     go_ret
     exact ⟨rfl,rfl⟩
   · have h6b:(k == 6)=false:=by simpa using h6
     go_wp2_with fail
     go_ret
     exact ⟨ret_bool (by unfold histB; simp [h5,h6]),rfl⟩
section
variable {w0:World} {M:Nat→Option Obj} {t g:Nat} {vs vt:Value} {C:Ch} {w:World} {vh ve vi vo:Value} {X:Se}
theorem upto_add (P:Nat→Bool) {n m:Nat} (hn:n≤31) (hm:m < n) (hP:P m=true):bits .or .u32 ((bset (fun k=>decide (k < m) && P k) n:Nat):Int) ((2:Int) ^ m)=((bset (fun k=>decide (k < m+1) && P k) n:Nat):Int):=by
 rw [or_add _ n m hn hm]
 congr 1
 refine bset_congr n fun k hk=>?_
 unfold addS
 by_cases hkm:k=m
 · subst hkm; simp [hP]
 · have h1:decide ((k:Int)=(m:Int))=false:=by simpa using (by omega:¬ (k:Int)=m)
   have h2:decide (k < m+1)=decide (k < m):=by simp; omega
   rw [h1,h2]
   simp
theorem upto_not (P:Nat→Bool) {n m:Nat} (hP:P m=false):bset (fun k=>decide (k < m+1) && P k) n=bset (fun k=>decide (k < m) && P k) n:=by
 refine bset_congr n fun k hk=>?_
 by_cases hkm:k=m
 · subst hkm; simp [hP]
 · have h2:decide (k < m+1)=decide (k < m):=by simp; omega
   rw [h2]
theorem upto_none (P:Nat→Bool) (n:Nat):bset (fun k=>decide (k < 0) && P k) n=0:=by
 have:(fun k=>decide (k < 0) && P k)=fun _=>false:=by funext k; simp
 rw [this]
 exact bset_none n
theorem upto_all (P:Nat→Bool) (n:Nat):bset (fun k=>decide (k < n) && P k) n=bset P n:=bset_congr n fun k hk=>by simp [hk]
set_option maxHeartbeats 4000000 in
set_option maxRecDepth 100000 in
theorem activeKids_any (hF:Fx w0 t vs vt C) (hS:SeAt w0 M t g vs vt C w vh ve vi vo X) (p:Int) :
 Calls Tryz.prog 155 #[.pointer (some ⟨g,0,none⟩),.int .i64 p] w fun e w'=>e=.returned (.int .u32 ((bset (fun k:Nat=>decide ((stAt C.sts (k:Int)).par=p) && X.a k) C.sts.length:Nat):Int))∧Below w.heap.size w w':=by
 have hlen:=hF.tame.len
 obtain ⟨sA,scap,tA,tcap,rfl,rfl⟩:=hF.has.slices
 have HS:=Lib.hid hS
 have HC:=Lib.hid hF.has
 obtain ⟨⟨x0,x1,x2,x3,x4⟩,-⟩:=hS.cells
 obtain ⟨P,hP⟩:∃ P:Nat→Bool,(fun k:Nat=>decide ((stAt C.sts (k:Int)).par=p) && X.a k)=P:=⟨_,rfl⟩
 have HP:Hid (∀ k,P k=(decide ((stAt C.sts (k:Int)).par=p) && X.a k)):=Lib.hid (fun k=>by rw [← hP])
 rw [hP]
 have H0:Hid (bset (fun k=>decide (k < 0) && P k) C.sts.length=0):=Lib.hid (upto_none P _)
 clear hF hS hP
 go_enter Tryz.func155,Tryz.ntmps155
 go_wp2_with fail
 go_loopw [5,14] (fun v i wr=>∃ k:Nat,k≤C.sts.length∧i=.int .i64 (k:Int)∧v=.int .u32 ((bset (fun j=>decide (j < k) && P j) C.sts.length:Nat):Int)∧Below w.heap.size w wr) (fun _ i _=>C.sts.length - (intOf i).toNat)
 case atStart=>exact ⟨0,Nat.zero_le _,rfl,by rw [H0.out]; rfl,Below.refl _ _⟩
 case round =>
  obtain ⟨k,hk,rfl,rfl,hb⟩:=hrel
  obtain ⟨wo,rfl⟩:∃ wo:World,wo=wr:=⟨_,rfl⟩
  clear x0 x1 x2 x3 x4
  by_cases hlt:k < C.sts.length
  · obtain ⟨b,o,cap',ui,ue,ux,hsl,_,hbl,hst,hhas⟩:=HC.out.st hlt
    injection hsl with e1 e2 e3
    subst e1
    obtain ⟨c0,c1,c2,c3,c4⟩:=hst.below (HS.out.below.trans (hb.mono HS.out.lt)) hbl
    obtain ⟨iA,icap,eA,ecap,xA,xcap,rfl,rfl,rfl⟩:=hhas.slices
    have hne:=(and_test X.a C.sts.length k (by omega) hlt).2
    have hPk:=HP.out k
    have hyes:=fun h=>upto_add P (n:=C.sts.length) (m:=k) (by omega) hlt h
    have hno:=fun h=>upto_not P (n:=C.sts.length) (m:=k) h
    have hw4:=(HS.out.after (hb.alloc hb.size (stBox (stAt C.sts (k:Int)).kind (stAt C.sts (k:Int)).par (.slice iA (stAt C.sts (k:Int)).ini.length icap) (.slice eA (stAt C.sts (k:Int)).ent.length ecap) (.slice xA (stAt C.sts (k:Int)).exi.length xcap)))).drew.cells.1.2.2.2.2
    have HB:=Lib.hid (hb.alloc hb.size (stBox (stAt C.sts (k:Int)).kind (stAt C.sts (k:Int)).par (.slice iA (stAt C.sts (k:Int)).ini.length icap) (.slice eA (stAt C.sts (k:Int)).ent.length ecap) (.slice xA (stAt C.sts (k:Int)).exi.length xcap)))
    have HBX:=Lib.hid (Blk.new wo 65 #[.int .i64 (stAt C.sts (k:Int)).kind,.int .i64 (stAt C.sts (k:Int)).par,.slice iA (stAt C.sts (k:Int)).ini.length icap,.slice eA (stAt C.sts (k:Int)).ent.length ecap,.slice xA (stAt C.sts (k:Int)).exi.length xcap]).drew
    generalize (stAt C.sts (k:Int)).kind=K at *
    generalize (stAt C.sts (k:Int)).par=Q at *
    generalize (stAt C.sts (k:Int)).ini.length=il at *
    generalize (stAt C.sts (k:Int)).ent.length=el at *
    generalize (stAt C.sts (k:Int)).exi.length=xl at *
    clear hst hhas e2 e3 hb
    by_cases hq:Q=p
    · have hqb:(Q == p)=true:=by simpa using hq
      cases hx:X.a k with
      | true =>
       have hu:=hyes (by rw [hPk,hx]; simpa using hq)
       rw [hx] at hne
       have HU:=Lib.hid hu
       clear hq hx hPk hyes hno hu
       go_wp2_with fail
       refine anyD_start (fun W=>W.cell? ⟨wo.heap.size,1,none⟩=some (.int .i64 Q)∧W.cell? ⟨g,4,none⟩=some (.int .u32 ((bset X.a C.sts.length:Nat):Int))) (fun i=>[].contains i) (by kernel_rfl) ?_
       try simp only [Act.put,sx]
       have y1:=HBX.out.cell 1
       refine anyD_t 0 (.pointer (some ⟨wo.heap.size,1,none⟩)) ?_
       try simp only [Act.put,sx]
       refine anyD_l 1 (.int .i64 Q) (⟨y1,hw4⟩) ?_
       try simp only [Act.put,sx]
       refine anyD_t 2 (.int .i64 p) ?_
       try simp only [Act.put,sx]
       refine anyD_t 3 (.bool true) ?_
       try simp only [Act.put,sx]
       refine anyD_t 4 (.bool true) ?_
       try simp only [Act.put,sx]
       refine anyD_t 5 (.pointer (some ⟨g,0,none⟩)) ?_
       try simp only [Act.put,sx]
       refine anyD_t 6 (.pointer (some ⟨g,0,none⟩)) ?_
       try simp only [Act.put,sx]
       refine anyD_t 7 (.pointer (some ⟨g,4,none⟩)) ?_
       try simp only [Act.put,sx]
       refine anyD_t 8 (.pointer (some ⟨g,4,none⟩)) ?_
       try simp only [Act.put,sx]
       refine anyD_l 9 (.int .u32 ((bset X.a C.sts.length:Nat):Int)) (⟨y1,hw4⟩) ?_
       try simp only [Act.put,sx]
       refine anyD_t 10 (.int .i64 (k:Int)) ?_
       try simp only [Act.put,sx]
       refine anyD_only (i:=11) rfl (by kernel_rfl) (by kernel_rfl) (fun K HK=>?_)
       go_simp
       refine (bitM_any k (by omega) _).mono ?_
       rintro e w2 ⟨rfl,rfl⟩
       go_simp
       refine HK.out _ _ (fun _ hS=>⟨y1,hw4⟩) ?_
       clear HK K
       try simp only [Act.put,sx]
       refine anyD_only (i:=12) rfl (by kernel_rfl) (by kernel_rfl) (fun K HK=>?_)
       go_simp
       refine HK.out _ _ (fun _ hS=>⟨y1,hw4⟩) ?_
       clear HK K
       try simp only [Act.put,sx]
       refine anyD_only (i:=13) rfl (by kernel_rfl) (by kernel_rfl) (fun K HK=>?_)
       go_simp
       refine HK.out _ _ (fun _ hS=>⟨y1,hw4⟩) ?_
       clear HK K
       try simp only [Act.put,sx]
       refine anyD_t 14 (.bool true) ?_
       try simp only [Act.put,sx]
       refine anyD_done (by kernel_rfl) ?_
       go_wp2_with fail
       refine (bitM_any k (by omega) _).mono ?_
       rintro e w2 ⟨rfl,rfl⟩
       go_wp2_with fail
       go_roundw
       case rel=>exact ⟨k+1,by omega,by go_num,by rw [← HU.out],below_drewN HB.out 1⟩
       case measure=>simp [intOf]; omega
      | false =>
       have hu:=hno (by rw [hPk,hx]; simp)
       rw [hx] at hne
       have HU:=Lib.hid hu
       clear hq hx hPk hyes hno hu
       go_wp2_with fail
       refine anyD_start (fun W=>W.cell? ⟨wo.heap.size,1,none⟩=some (.int .i64 Q)∧W.cell? ⟨g,4,none⟩=some (.int .u32 ((bset X.a C.sts.length:Nat):Int))) (fun i=>[].contains i) (by kernel_rfl) ?_
       try simp only [Act.put,sx]
       have y1:=HBX.out.cell 1
       refine anyD_t 0 (.pointer (some ⟨wo.heap.size,1,none⟩)) ?_
       try simp only [Act.put,sx]
       refine anyD_l 1 (.int .i64 Q) (⟨y1,hw4⟩) ?_
       try simp only [Act.put,sx]
       refine anyD_t 2 (.int .i64 p) ?_
       try simp only [Act.put,sx]
       refine anyD_t 3 (.bool true) ?_
       try simp only [Act.put,sx]
       refine anyD_t 4 (.bool true) ?_
       try simp only [Act.put,sx]
       refine anyD_t 5 (.pointer (some ⟨g,0,none⟩)) ?_
       try simp only [Act.put,sx]
       refine anyD_t 6 (.pointer (some ⟨g,0,none⟩)) ?_
       try simp only [Act.put,sx]
       refine anyD_t 7 (.pointer (some ⟨g,4,none⟩)) ?_
       try simp only [Act.put,sx]
       refine anyD_t 8 (.pointer (some ⟨g,4,none⟩)) ?_
       try simp only [Act.put,sx]
       refine anyD_l 9 (.int .u32 ((bset X.a C.sts.length:Nat):Int)) (⟨y1,hw4⟩) ?_
       try simp only [Act.put,sx]
       refine anyD_t 10 (.int .i64 (k:Int)) ?_
       try simp only [Act.put,sx]
       refine anyD_only (i:=11) rfl (by kernel_rfl) (by kernel_rfl) (fun K HK=>?_)
       go_simp
       refine (bitM_any k (by omega) _).mono ?_
       rintro e w2 ⟨rfl,rfl⟩
       go_simp
       refine HK.out _ _ (fun _ hS=>⟨y1,hw4⟩) ?_
       clear HK K
       try simp only [Act.put,sx]
       refine anyD_only (i:=12) rfl (by kernel_rfl) (by kernel_rfl) (fun K HK=>?_)
       go_simp
       refine HK.out _ _ (fun _ hS=>⟨y1,hw4⟩) ?_
       clear HK K
       try simp only [Act.put,sx]
       refine anyD_only (i:=13) rfl (by kernel_rfl) (by kernel_rfl) (fun K HK=>?_)
       go_simp
       refine HK.out _ _ (fun _ hS=>⟨y1,hw4⟩) ?_
       clear HK K
       try simp only [Act.put,sx]
       refine anyD_t 14 (.bool false) ?_
       try simp only [Act.put,sx]
       refine anyD_done (by kernel_rfl) ?_
       go_wp2_with fail
       go_roundw
       case rel=>exact ⟨k+1,by omega,by go_num,by rw [HU.out],below_drewN HB.out 1⟩
       case measure=>simp [intOf]; omega
    · have hqb:(Q == p)=false:=by simpa using hq
      have hu:=hno (by rw [hPk]; simp [hq])
      have HU:=Lib.hid hu
      clear hq hPk hyes hno hu
      go_wp2_with fail
      go_quiet (fail)
      go_wp2_with fail
      go_roundw
      case rel=>exact ⟨k+1,by omega,by go_num,by rw [HU.out],below_drewN HB.out _⟩
      case measure=>simp [intOf]; omega
  · obtain rfl:k=C.sts.length:=by omega
    have HB:=Lib.hid hb
    go_wp2_with fail
    go_ret
    exact ⟨by rw [upto_all]; rfl,HB.out⟩
def lvA (S:List St) (L:List Int) (p:Int) (k:Nat):Bool:=L.contains (k:Int) && cIn S (k:Int) p
theorem lvA_add (S:List St) (L:List Int) (p:Int) {n j:Nat} (hn:n≤31) (hj:j < n) (hc:cIn S (j:Int) p=true):bits .or .u32 ((bset (lvA S L p) n:Nat):Int) ((2:Int) ^ j)=((bset (lvA S (L ++ [(j:Int)]) p) n:Nat):Int):=by
 rw [or_add _ n j hn hj]
 congr 1
 refine bset_congr n fun k hk=>?_
 unfold addS lvA
 rw [List.contains_append]
 by_cases hkj:k=j
 · subst hkj; simp [hc]
 · have h1:decide ((k:Int)=(j:Int))=false:=by simpa using (by omega:¬ (k:Int)=j)
   have h2:[(j:Int)].contains (k:Int)=false:=by simpa using (by omega:¬ (k:Int)=j)
   rw [h1,h2]
   simp
theorem lvA_not (S:List St) (L:List Int) (p:Int) {n j:Nat} (hc:cIn S (j:Int) p=false):bset (lvA S (L ++ [(j:Int)]) p) n=bset (lvA S L p) n:=by
 refine bset_congr n fun k hk=>?_
 unfold lvA
 rw [List.contains_append]
 by_cases hkj:k=j
 · subst hkj; simp [hc]
 · have h2:[(j:Int)].contains (k:Int)=false:=by simpa using (by omega:¬ (k:Int)=j)
   rw [h2]
   simp
theorem lv_mem {S:List St} {N k:Nat} (hk:k < S.length):(lvL S N).contains (k:Int)=leafP S N k:=by
 rw [Bool.eq_iff_iff,List.contains_iff_mem]
 unfold lvL lvU
 rw [List.mem_map]
 constructor
 · rintro ⟨j,hj,he⟩
   obtain rfl:j=k:=by omega
   exact (List.mem_filter.1 hj).2
 · intro h
   exact ⟨k,List.mem_filter.2 ⟨List.mem_range.2 hk,h⟩,rfl⟩
theorem lv_nat {S:List St} {N:Nat} {x:Int} (h:x ∈ lvL S N):∃ j:Nat,x=(j:Int)∧j < S.length:=by
 unfold lvL lvU at h
 obtain ⟨j,hj,rfl⟩:=List.mem_map.1 h
 exact ⟨j,rfl,List.mem_range.1 (List.mem_filter.1 hj).1⟩
set_option maxHeartbeats 4000000 in
set_option maxRecDepth 100000 in
theorem activeLeaves_any (hF:Fx w0 t vs vt C) (hS:SeAt w0 M t g vs vt C w vh ve vi vo X) (p:Int) :
 Calls Tryz.prog 156 #[.pointer (some ⟨g,0,none⟩),.int .i64 p] w fun e w'=>e=.returned (.int .u32 ((bset (fun k:Nat=>(X.a k && leafK C.sts (k:Int)) && cIn C.sts (k:Int) p) C.sts.length:Nat):Int))∧Below w.heap.size w w':=by
 have hlen:=hF.tame.len
 have HS:=Lib.hid hS
 have HLV:=Lib.hid (leavesT_any t (bset X.a C.sts.length) C w.drew (hF.tree.below hS.drew.below) (by omega) (bset_u32 _ (by omega)))
 have HRES:Hid (bset (fun k:Nat=>(X.a k && leafK C.sts (k:Int)) && cIn C.sts (k:Int) p) C.sts.length=bset (lvA C.sts (lvL C.sts (bset X.a C.sts.length)) p) C.sts.length):=Lib.hid (bset_congr _ fun k hk=>by
  unfold lvA
  rw [lv_mem hk]
  unfold leafP
  rw [bset_bitN k hk]
  rfl)
 have HNAT:Hid (∀ x ∈ lvL C.sts (bset X.a C.sts.length),∃ j:Nat,x=(j:Int)∧j < C.sts.length):=Lib.hid (fun x hx=>lv_nat hx)
 have HIN:=Lib.hid (fun (W:World) (h:Below w0.heap.size w0 W) (a:Int)=>inT_any t a p C W (hF.tree.below h) (by omega) hF.rooted)
 have hln:(lvL C.sts (bset X.a C.sts.length)).length≤24:=by
  unfold lvL lvU
  rw [List.length_map]
  exact Nat.le_trans (List.length_filter_le _ _) (by rw [List.length_range]; exact hlen)
 obtain ⟨L,hL⟩:∃ L,lvL C.sts (bset X.a C.sts.length)=L:=⟨_,rfl⟩
 rw [hL] at HLV HRES HNAT hln
 rw [HRES.out]
 have HSD:=Lib.hid hS.drew
 obtain ⟨⟨x0,-,-,-,x4⟩,-⟩:=hS.drew.cells
 clear hF hS hL HRES
 go_enter Tryz.func156,Tryz.ntmps156
 go_wp2_with fail
 refine anyD_start (fun W=>W.cell? ⟨g,0,none⟩=some (.pointer (some ⟨t,0,none⟩))∧W.cell? ⟨g,4,none⟩=some (.int .u32 ((bset X.a C.sts.length:Nat):Int))) (fun i=>[].contains i) (by kernel_rfl) ?_
 try simp only [Act.put,sx]
 refine anyD_t 0 (.pointer (some ⟨g,0,none⟩)) ?_
 try simp only [Act.put,sx]
 refine anyD_t 1 (.pointer (some ⟨g,0,none⟩)) ?_
 try simp only [Act.put,sx]
 refine anyD_t 2 (.pointer (some ⟨g,0,none⟩)) ?_
 try simp only [Act.put,sx]
 refine anyD_l 3 (.pointer (some ⟨t,0,none⟩)) (⟨x0,x4⟩) ?_
 try simp only [Act.put,sx]
 refine anyD_t 4 (.pointer (some ⟨g,0,none⟩)) ?_
 try simp only [Act.put,sx]
 refine anyD_t 5 (.pointer (some ⟨g,0,none⟩)) ?_
 try simp only [Act.put,sx]
 refine anyD_t 6 (.pointer (some ⟨g,4,none⟩)) ?_
 try simp only [Act.put,sx]
 refine anyD_t 7 (.pointer (some ⟨g,4,none⟩)) ?_
 try simp only [Act.put,sx]
 refine anyD_l 8 (.int .u32 ((bset X.a C.sts.length:Nat):Int)) (⟨x0,x4⟩) ?_
 try simp only [Act.put,sx]
 refine anyD_t 11 (.int .i64 0) ?_
 try simp only [Act.put,sx]
 refine anyD_one (i:=9) rfl rfl (by kernel_rfl) (fun K HK=>?_)
 go_simp
 refine HLV.out.mono ?_
 rintro e w2 ⟨hb2,v2,rfl,hown2⟩
 obtain ⟨A2,cap2,rfl⟩:=own_slice hown2
 have HB2:Hid (Below w.heap.size w w2):=Lib.hid ((Below.refl _ _).drew.trans hb2)
 have HS2:=Lib.hid (HSD.out.after hb2)
 have HLA:=Lib.hid (list_of_own hown2)
 clear hb2 hown2
 go_simp
 refine HK.out _ _ (fun _ hS=>⟨HS2.out.cells.1.1,HS2.out.cells.1.2.2.2.2⟩) ?_
 clear HK K
 try simp only [Act.put,sx]
 refine anyD_t 10 (.int .i64 (L.length:Int)) ?_
 try simp only [Act.put,sx]
 refine anyD_done (by kernel_rfl) ?_
 clear x0 x4
 have HIN2:=Lib.hid (HIN.out w2 HS2.out.below)
 obtain ⟨⟨x0,-,-,-,-⟩,-⟩:=HS2.out.cells
 have H0:Hid (bset (lvA C.sts [] p) C.sts.length=0):=Lib.hid (by
  have:lvA C.sts [] p=fun _=>false:=by funext k; simp [lvA]
  rw [this]
  exact bset_none _)
 go_wp2_with fail
 go_loopw [5,19] (fun v i wr=>∃ m:Nat,m≤L.length∧i=.int .i64 (m:Int)∧v=.int .u32 ((bset (lvA C.sts (L.take m) p) C.sts.length:Nat):Int)∧wr=w2) (fun _ i _=>L.length - (intOf i).toNat)
 case atStart=>exact ⟨0,Nat.zero_le _,rfl,by rw [List.take_zero,H0.out]; rfl,rfl⟩
 case round =>
  obtain ⟨m,hm,rfl,rfl,rfl⟩:=hrel
  by_cases hlt:m < L.length
  · obtain ⟨_,_,q1,_,q3⟩:=HLA.out
    injection q1 with e1 e2 e3
    subst e1
    obtain ⟨b,o,rfl,hbl,hc⟩:=q3 m _ (List.getElem?_eq_getElem hlt)
    have c0:wr.cell? ⟨b,o+m,none⟩=some (.int .i64 L[m]):=by have:=hc; unfold IntAt at this; rwa [Nat.mul_one] at this
    have hmem:L[m] ∈ L:=List.getElem_mem hlt
    have htk:L.take (m+1)=L.take m ++ [L[m]]:=by rw [List.take_add_one,List.getElem?_eq_getElem hlt]; rfl
    generalize L[m]=x at *
    obtain ⟨j,rfl,hj⟩:=HNAT.out x hmem
    have hyes:=fun h=>lvA_add C.sts (L.take m) p (n:=C.sts.length) (j:=j) (by omega) hj h
    have hno:=fun h=>lvA_not C.sts (L.take m) p (n:=C.sts.length) (j:=j) h
    have HTK:=Lib.hid htk
    clear hc q3 e2 e3 htk hmem
    cases hci:cIn C.sts (j:Int) p with
    | true =>
     have hu:=hyes hci
     have HI2:=Lib.hid (HIN2.out (j:Int))
     rw [hci] at HI2
     clear hyes hno hci
     go_wp2_with fail
     refine HI2.out.mono ?_
     rintro e w3 ⟨rfl,rfl⟩
     go_wp2_with fail
     refine (bitM_any j (by omega) _).mono ?_
     rintro e w3 ⟨rfl,rfl⟩
     have HU:=Lib.hid hu
     clear hu
     go_wp2_with fail
     go_roundw
     case rel=>exact ⟨m+1,by omega,by go_num,by rw [HTK.out,← HU.out],trivial⟩
     case measure=>simp [intOf]; omega
    | false =>
     have HU:=Lib.hid (hno hci)
     have HI2:=Lib.hid (HIN2.out (j:Int))
     rw [hci] at HI2
     clear hyes hno hci
     go_wp2_with fail
     refine HI2.out.mono ?_
     rintro e w3 ⟨rfl,rfl⟩
     go_wp2_with fail
     go_roundw
     case rel=>exact ⟨m+1,by omega,by go_num,by rw [HTK.out,HU.out],trivial⟩
     case measure=>simp [intOf]; omega
  · obtain rfl:m=L.length:=by omega
    go_wp2_with fail
    go_ret
    exact ⟨by rw [List.take_length]; rfl,HB2.out⟩
set_option maxHeartbeats 4000000 in
set_option maxRecDepth 100000 in
theorem activeFor_any (hF:Fx w0 t vs vt C) (hS:SeAt w0 M t g vs vt C w vh ve vi vo X) (h:Nat) (iA eA xA:Option Addr) (il icap el ecap xl xcap:Nat) :
 Calls Tryz.prog 126 #[.pointer (some ⟨g,0,none⟩),.agg #[.int .i64 (stAt C.sts (h:Int)).kind,.int .i64 (stAt C.sts (h:Int)).par,.slice iA il icap,.slice eA el ecap,.slice xA xl xcap]] w fun e w'=>e=.returned (.int .u32 ((bset (actP C.sts X.a (h:Int)) C.sts.length:Nat):Int))∧Below w.heap.size w w':=by
 have hb0:=below_box w (stBox (stAt C.sts (h:Int)).kind (stAt C.sts (h:Int)).par (.slice iA il icap) (.slice eA el ecap) (.slice xA xl xcap))
 have HB0:=Lib.hid hb0
 have HK:=Lib.hid (activeKids_any hF (hS.after hb0) (stAt C.sts (h:Int)).par)
 have HLV:=Lib.hid (activeLeaves_any hF (hS.after hb0) (stAt C.sts (h:Int)).par)
 by_cases h5:(stAt C.sts (h:Int)).kind=5
 · have HR:Hid (bset (actP C.sts X.a (h:Int)) C.sts.length=bset (fun k:Nat=>decide ((stAt C.sts (k:Int)).par=(stAt C.sts (h:Int)).par) && X.a k) C.sts.length):=Lib.hid (bset_congr _ fun k _=>by unfold actP; rw [if_pos h5])
   rw [h5] at HB0 HK ⊢
   rw [HR.out]
   generalize (stAt C.sts (h:Int)).par=p at *
   clear hF hS hb0 h5 HR HLV
   go_enter Tryz.func126,Tryz.ntmps126
   go_wp2_with fail
   refine HK.out.mono ?_
   rintro e w2 ⟨rfl,hb2⟩
   have HB2:=Lib.hid (HB0.out.trans (hb2.mono HB0.out.size))
   clear hb2
   go_wp2_with fail
   go_ret
   exact ⟨rfl,HB2.out⟩
 · have h5b:((stAt C.sts (h:Int)).kind == 5)=false:=by simpa using h5
   have HR:Hid (bset (actP C.sts X.a (h:Int)) C.sts.length=bset (fun k:Nat=>(X.a k && leafK C.sts (k:Int)) && cIn C.sts (k:Int) (stAt C.sts (h:Int)).par) C.sts.length):=Lib.hid (bset_congr _ fun k _=>by unfold actP; rw [if_neg h5])
   rw [HR.out]
   generalize (stAt C.sts (h:Int)).kind=K at *
   generalize (stAt C.sts (h:Int)).par=p at *
   clear hF hS hb0 h5 HR HK
   go_enter Tryz.func126,Tryz.ntmps126
   go_wp2_with fail
   refine HLV.out.mono ?_
   rintro e w2 ⟨rfl,hb2⟩
   have HB2:=Lib.hid (HB0.out.trans (hb2.mono HB0.out.size))
   clear hb2
   go_wp2_with fail
   go_ret
   exact ⟨rfl,HB2.out⟩
end
end Go.Proofs.YtgofpbdbeegoeaaGreatDoor
