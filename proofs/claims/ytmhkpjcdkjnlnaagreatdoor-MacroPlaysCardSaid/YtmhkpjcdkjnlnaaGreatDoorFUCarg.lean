/- How charts lie in memory: slices of numbers, actions, states and transitions; and that they lie so still where no old block has changed. No function is called in this text. -/
import Derived.Test.YtmhkpjcdkjnlnaaGreatDoorFUZlaid
import Derived.Test.YtmhkpjcdkjnlnaaGreatDoorFUSpure
import Derived.Lib.AtoiErrMem
import Derived.Lib.SmallJoins
import Derived.Deep.Slices
import Derived.ChangeArms
namespace Go.Proofs.YtmhkpjcdkjnlnaaGreatDoor
open Go.ChangeShapes Go.WideShapes Go.ChangeAt Go.RowKit
set_option linter.unusedVariables false

def RowsAt {α:Type} (n:Nat) (P:World→Nat→Nat→α→Prop) (w:World) (v:Value) (xs:List α):Prop :=
 ∃ (A:Option Addr) (cap:Nat),v=.slice A xs.length cap∧xs.length≤cap∧∀ (i:Nat) (x:α),xs[i]?=some x→∃ b o:Nat,A=some ⟨b,o,none⟩∧b < w.heap.size∧P w b (o+i * n) x
def Keeps {α:Type} (P:World→Nat→Nat→α→Prop):Prop:=∀ (w w':World) (b o:Nat) (x:α),Below w.heap.size w w'→b < w.heap.size→P w b o x→P w' b o x
theorem RowsAt.below {α:Type} {n:Nat} {P:World→Nat→Nat→α→Prop} (hP:Keeps P) {w w':World} {v:Value} {xs:List α} (h:RowsAt n P w v xs) (hb:Below w.heap.size w w'):RowsAt n P w' v xs:=by
 obtain ⟨A,cap,hv,hc,hi⟩:=h
 refine ⟨A,cap,hv,hc,fun i t ht=>?_⟩
 obtain ⟨b,o,hA,hlt,h0⟩:=hi i t ht
 exact ⟨b,o,hA,Nat.lt_of_lt_of_le hlt hb.size,hP w w' b _ t hb hlt h0⟩
theorem RowsAt.nil {α:Type} {n:Nat} {P:World→Nat→Nat→α→Prop} (w:World):RowsAt n P w (.slice none 0 0) ([]:List α):=⟨none,0,rfl,Nat.le_refl _,fun i t h=>by simp at h⟩
theorem RowsAt.take {α:Type} {n:Nat} {P:World→Nat→Nat→α→Prop} {w:World} {A:Option Addr} {len cap:Nat} {xs:List α} (h:RowsAt n P w (.slice A len cap) xs) (k:Nat) (hk:k≤len):RowsAt n P w (.slice A k cap) (xs.take k):=by
 obtain ⟨A',cap',hv,hc,hi⟩:=h
 injection hv with h1 h2 h3
 subst h1; subst h2; subst h3
 refine ⟨A,cap,by rw [List.length_take,Nat.min_eq_left hk],by rw [List.length_take]; omega,fun i t ht=>?_⟩
 rw [List.getElem?_take] at ht
 split at ht
 · exact hi i t ht
 · cases ht
def Short (n:Nat):Prop:=n≤9223372036854775807
def IntAt (w:World) (b o:Nat) (x:Int):Prop:=w.cell? ⟨b,o,none⟩=some (.int .i64 x)
theorem IntAt.keeps:Keeps IntAt:=fun w w' b o x hb hlt h=>(hb.cell (p:=⟨b,o,none⟩) hlt).trans h
def ListAt (w:World) (v:Value) (xs:List Int):Prop:=RowsAt 1 IntAt w v xs
theorem ListAt.below {w w':World} {v:Value} {xs:List Int} (h:ListAt w v xs) (hb:Below w.heap.size w w'):ListAt w' v xs:=RowsAt.below IntAt.keeps h hb

def AcAt (w:World) (b o:Nat) (a:Ac):Prop :=
 w.cell? ⟨b,o,none⟩=some (.int .i64 a.kind)∧w.cell? ⟨b,o+1,none⟩=some (.int .i64 a.n)∧w.cell? ⟨b,o+2,none⟩=some (.int .i64 a.m)∧w.cell? ⟨b,o+3,none⟩=some (.string a.expr)
theorem AcAt.keeps:Keeps AcAt:=fun w w' b o x hb hlt h =>
 ⟨(hb.cell (p:=⟨b,_,none⟩) hlt).trans h.1,(hb.cell (p:=⟨b,_,none⟩) hlt).trans h.2.1,(hb.cell (p:=⟨b,_,none⟩) hlt).trans h.2.2.1,(hb.cell (p:=⟨b,_,none⟩) hlt).trans h.2.2.2⟩
def ActsAt (w:World) (v:Value) (l:List Ac):Prop:=RowsAt 4 AcAt w v l
theorem ActsAt.below {w w':World} {v:Value} {l:List Ac} (h:ActsAt w v l) (hb:Below w.heap.size w w'):ActsAt w' v l:=RowsAt.below AcAt.keeps h hb

def StHas (w:World) (vi ve vx:Value) (s:St):Prop:=ListAt w vi s.ini∧ActsAt w ve s.ent∧ActsAt w vx s.exi
theorem StHas.below {w w':World} {vi ve vx:Value} {s:St} (h:StHas w vi ve vx s) (hb:Below w.heap.size w w'):StHas w' vi ve vx s:=⟨h.1.below hb,h.2.1.below hb,h.2.2.below hb⟩
theorem RowsAt.slice {α:Type} {n:Nat} {P:World→Nat→Nat→α→Prop} {w:World} {v:Value} {xs:List α} (h:RowsAt n P w v xs):∃ A cap,v=.slice A xs.length cap∧xs.length≤cap:=let ⟨A,cap,h1,h2,_⟩:=h; ⟨A,cap,h1,h2⟩
theorem StHas.slices {w:World} {vi ve vx:Value} {s:St} (h:StHas w vi ve vx s):∃ (iA:Option Addr) (icap:Nat) (eA:Option Addr) (ecap:Nat) (xA:Option Addr) (xcap:Nat),vi=.slice iA s.ini.length icap∧ve=.slice eA s.ent.length ecap∧vx=.slice xA s.exi.length xcap:=by
 obtain ⟨iA,icap,h1,_⟩:=RowsAt.slice h.1
 obtain ⟨eA,ecap,h2,_⟩:=RowsAt.slice h.2.1
 obtain ⟨xA,xcap,h3,_⟩:=RowsAt.slice h.2.2
 exact ⟨iA,icap,eA,ecap,xA,xcap,h1,h2,h3⟩
def StC (w:World) (b o:Nat) (s:St) (vi ve vx:Value):Prop :=
 w.cell? ⟨b,o,none⟩=some (.int .i64 s.kind)∧w.cell? ⟨b,o+1,none⟩=some (.int .i64 s.par)∧w.cell? ⟨b,o+2,none⟩=some vi∧w.cell? ⟨b,o+3,none⟩=some ve∧w.cell? ⟨b,o+4,none⟩=some vx
theorem StC.below {w w':World} {b o:Nat} {s:St} {vi ve vx:Value} (h:StC w b o s vi ve vx) (hb:Below w.heap.size w w') (hlt:b < w.heap.size):StC w' b o s vi ve vx :=
 ⟨(hb.cell (p:=⟨b,_,none⟩) hlt).trans h.1,(hb.cell (p:=⟨b,_,none⟩) hlt).trans h.2.1,(hb.cell (p:=⟨b,_,none⟩) hlt).trans h.2.2.1,(hb.cell (p:=⟨b,_,none⟩) hlt).trans h.2.2.2.1,(hb.cell (p:=⟨b,_,none⟩) hlt).trans h.2.2.2.2⟩
def StAt (w:World) (b o:Nat) (s:St):Prop:=∃ vi ve vx:Value,StC w b o s vi ve vx∧StHas w vi ve vx s
theorem StAt.keeps:Keeps StAt:=fun w w' b o x hb hlt ⟨vi,ve,vx,h0,h5⟩=>⟨vi,ve,vx,h0.below hb hlt,h5.below hb⟩
def StsAt (w:World) (v:Value) (l:List St):Prop:=RowsAt 5 StAt w v l
theorem StsAt.below {w w':World} {v:Value} {l:List St} (h:StsAt w v l) (hb:Below w.heap.size w w'):StsAt w' v l:=RowsAt.below StAt.keeps h hb

def TrHas (w:World) (vt va:Value) (t:Tr):Prop:=ListAt w vt t.tgts∧ActsAt w va t.acts
theorem TrHas.below {w w':World} {vt va:Value} {t:Tr} (h:TrHas w vt va t) (hb:Below w.heap.size w w'):TrHas w' vt va t:=⟨h.1.below hb,h.2.below hb⟩
theorem TrHas.slices {w:World} {vt va:Value} {t:Tr} (h:TrHas w vt va t):∃ (tA:Option Addr) (tcap:Nat) (aA:Option Addr) (acap:Nat),vt=.slice tA t.tgts.length tcap∧va=.slice aA t.acts.length acap:=by
 obtain ⟨tA,tcap,h1,_⟩:=RowsAt.slice h.1
 obtain ⟨aA,acap,h2,_⟩:=RowsAt.slice h.2
 exact ⟨tA,tcap,aA,acap,h1,h2⟩
def TrC (w:World) (b o:Nat) (t:Tr) (vt va:Value):Prop :=
 w.cell? ⟨b,o,none⟩=some (.int .i64 t.src)∧w.cell? ⟨b,o+1,none⟩=some (.int .i64 t.ev)∧w.cell? ⟨b,o+2,none⟩=some (.string t.guard)∧w.cell? ⟨b,o+3,none⟩=some vt∧w.cell? ⟨b,o+4,none⟩=some (.bool t.inner)∧w.cell? ⟨b,o+5,none⟩=some va
theorem TrC.below {w w':World} {b o:Nat} {t:Tr} {vt va:Value} (h:TrC w b o t vt va) (hb:Below w.heap.size w w') (hlt:b < w.heap.size):TrC w' b o t vt va :=
 ⟨(hb.cell (p:=⟨b,_,none⟩) hlt).trans h.1,(hb.cell (p:=⟨b,_,none⟩) hlt).trans h.2.1,(hb.cell (p:=⟨b,_,none⟩) hlt).trans h.2.2.1,(hb.cell (p:=⟨b,_,none⟩) hlt).trans h.2.2.2.1,(hb.cell (p:=⟨b,_,none⟩) hlt).trans h.2.2.2.2.1,(hb.cell (p:=⟨b,_,none⟩) hlt).trans h.2.2.2.2.2⟩
def TrAt (w:World) (b o:Nat) (t:Tr):Prop:=∃ vt va:Value,TrC w b o t vt va∧TrHas w vt va t
theorem TrAt.keeps:Keeps TrAt:=fun w w' b o x hb hlt ⟨vt,va,h0,h6⟩=>⟨vt,va,h0.below hb hlt,h6.below hb⟩
def TrsAt (w:World) (v:Value) (l:List Tr):Prop:=RowsAt 6 TrAt w v l
theorem TrsAt.below {w w':World} {v:Value} {l:List Tr} (h:TrsAt w v l) (hb:Below w.heap.size w w'):TrsAt w' v l:=RowsAt.below TrAt.keeps h hb

def ChHas (w:World) (vs vt:Value) (C:Ch):Prop:=StsAt w vs C.sts∧TrsAt w vt C.trs
theorem ChHas.below {w w':World} {vs vt:Value} {C:Ch} (h:ChHas w vs vt C) (hb:Below w.heap.size w w'):ChHas w' vs vt C:=⟨h.1.below hb,h.2.below hb⟩
theorem stAt_nat {S:List St} {k:Nat} (h:k < S.length):S[k]?=some (stAt S (k:Int)):=by
 unfold stAt
 simp [List.getD,List.getElem?_eq_getElem h]
theorem isSt_nat {S:List St} {s:Int} (h:isSt S s=true):∃ k:Nat,s=(k:Int)∧k < S.length:=by
 unfold isSt at h
 simp only [Bool.and_eq_true,decide_eq_true_eq] at h
 exact ⟨s.toNat,by omega,by omega⟩
theorem isSt_of {S:List St} {k:Nat} (h:k < S.length):isSt S (k:Int)=true:=by
 unfold isSt
 simp only [Bool.and_eq_true,decide_eq_true_eq]
 omega
theorem ChHas.st {w:World} {vs vt:Value} {C:Ch} (h:ChHas w vs vt C) {k:Nat} (hk:k < C.sts.length) :
 ∃ (b o cap:Nat) (vi ve vx:Value),vs=.slice (some ⟨b,o,none⟩) C.sts.length cap∧C.sts.length≤cap∧b < w.heap.size∧StC w b (o+k * 5) (stAt C.sts (k:Int)) vi ve vx∧StHas w vi ve vx (stAt C.sts (k:Int)):=by
 obtain ⟨⟨A,cap,hv,hc,hi⟩,_⟩:=h
 obtain ⟨b,o,hA,hlt,vi,ve,vx,h0,h1⟩:=hi k _ (stAt_nat hk)
 exact ⟨b,o,cap,vi,ve,vx,by rw [hv,hA],hc,hlt,h0,h1⟩
theorem ChHas.st' {w:World} {vt:Value} {C:Ch} {b o n cap:Nat} (h:ChHas w (.slice (some ⟨b,o,none⟩) n cap) vt C) {k:Nat} (hk:k < C.sts.length) :
 ∃ (vi ve vx:Value),StC w b (o+k * 5) (stAt C.sts (k:Int)) vi ve vx∧StHas w vi ve vx (stAt C.sts (k:Int)):=by
 obtain ⟨b',o',cap',vi,ve,vx,hv,_,_,h0,h1⟩:=h.st hk
 injection hv with e1 e2 e3
 injection e1 with e1
 injection e1 with e4 e5
 subst e4; subst e5
 exact ⟨vi,ve,vx,h0,h1⟩
abbrev chBox (vr:Int) (vs vt:Value):Obj:=.cells #[.int .i64 vr,vs,vt] 25
theorem below_box (w:World) (o:Obj):Below w.heap.size w (w.alloc o):=(Below.refl _ _).alloc (Nat.le_refl _) o

set_option maxHeartbeats 1000000 in
theorem fewActs_any (v:Value) (l:List Ac) (w:World) (hA:ActsAt w v l) (hl:Short l.length) :
 Calls Tryz.prog 28 #[v] w fun e w'=>e=.returned (.bool (fewActsB l))∧w=w':=by
 unfold Short at hl
 obtain ⟨A,cap,rfl,hcap,hel⟩:=hA
 have HE:=Lib.hid hel
 have HRT:Hid ((∀ i,i < l.length→decide ((l.getD i noAc).expr.size≤500)=true)→fewActsB l=decide (l.length≤20)):=Lib.hid (fun h=>by unfold fewActsB; rw [allU_true h]; rfl)
 have HRF:Hid (∀ i,i < l.length→decide ((l.getD i noAc).expr.size≤500)=false→fewActsB l=false):=Lib.hid (fun i hi h=>by unfold fewActsB; rw [allU_false i hi h]; rfl)
 generalize fewActsB l=R at *
 clear hel
 go_enter Tryz.func28,Tryz.ntmps28
 go_wp2_with fail
 go_loop [3] (fun i=>∃ k:Nat,k≤l.length∧i=.int .i64 (k:Int)∧Hid (∀ j,j < k→decide ((l.getD j noAc).expr.size≤500)=true)) (fun i=>l.length - (intOf i).toNat)
 case atStart=>exact ⟨0,Nat.zero_le _,rfl,Lib.hid (fun j hj=>by omega)⟩
 case round =>
  obtain ⟨k,hk,rfl,HO⟩:=hrel
  by_cases hlt:k < l.length
  · have hge:l[k]?=some (l.getD k noAc):=by simp [List.getD,List.getElem?_eq_getElem hlt]
    obtain ⟨b,o,rfl,hbw,hc⟩:=HE.out k _ hge
    obtain ⟨c0,c1,c2,c3⟩:=hc
    have hRF:=HRF.out k hlt
    have hRO:decide ((l.getD k noAc).expr.size≤500)=true→∀ j,j < k+1→decide ((l.getD j noAc).expr.size≤500)=true:=fun h j hj=>by
     by_cases he:j=k
     · rw [he]; exact h
     · exact HO.out j (by omega)
    generalize l.getD k noAc=a at *
    have HRF':=Lib.hid hRF
    have HRO:=Lib.hid hRO
    clear hge hRF hRO
    by_cases hz:500 < a.expr.size
    · have hz1:decide ((500:Int) < (a.expr.size:Int))=true:=by simp; omega
      have hz2:decide (500 < a.expr.size)=true:=by simpa using hz
      have HZ:=Lib.hid hz
      clear hz
      go_wp2_with fail
      go_ret
      exact ⟨ret_bool (HRF'.out (by simp; exact HZ.out)).symm,rfl⟩
    · have hz1:decide ((500:Int) < (a.expr.size:Int))=false:=by simp; omega
      have hz2:decide (500 < a.expr.size)=false:=by simpa using hz
      have HZ:=Lib.hid hz
      clear hz
      go_wp2
      go_round
      case rel=>exact ⟨k+1,by omega,by go_num,Lib.hid (HRO.out (by simp; have:=HZ.out; omega))⟩
      case measure=>simp [intOf]; omega
  · obtain rfl:k=l.length:=by omega
    have hR:=HRT.out HO.out
    by_cases hz:l.length≤20
    · have hz1:decide ((l.length:Int)≤(20:Int))=true:=by simp; omega
      have hz2:decide (l.length≤20)=true:=by simpa using hz
      rw [hz2] at hR
      have HR:=Lib.hid hR
      clear hR hz
      go_wp2_with fail
      go_ret
      exact ⟨ret_bool HR.out.symm,rfl⟩
    · have hz1:decide ((l.length:Int)≤(20:Int))=false:=by simp; omega
      have hz2:decide (l.length≤20)=false:=by simpa using hz
      rw [hz2] at hR
      have HR:=Lib.hid hR
      clear hR hz
      go_wp2_with fail
      go_ret
      exact ⟨ret_bool HR.out.symm,rfl⟩
def ShortSt (s:St):Prop:=Short s.ini.length∧Short s.ent.length∧Short s.exi.length
def ShortTr (t:Tr):Prop:=Short t.tgts.length∧Short t.acts.length
structure ShortCh (C:Ch):Prop where
 sts:Short C.sts.length
 trs:Short C.trs.length
 st:∀ (k:Nat),k < C.sts.length→ShortSt (C.sts.getD k noSt)
 tr:∀ (k:Nat),k < C.trs.length→ShortTr (C.trs.getD k noTr)
theorem ChHas.tr {w:World} {vs vt:Value} {C:Ch} (h:ChHas w vs vt C) {k:Nat} (hk:k < C.trs.length) :
 ∃ (b o cap:Nat) (wt wa:Value),vt=.slice (some ⟨b,o,none⟩) C.trs.length cap∧C.trs.length≤cap∧b < w.heap.size∧TrC w b (o+k * 6) (C.trs.getD k noTr) wt wa∧TrHas w wt wa (C.trs.getD k noTr):=by
 obtain ⟨_,A,cap,hv,hc,hi⟩:=h
 obtain ⟨b,o,hA,hlt,vi,ve,h0,h1⟩:=hi k (C.trs.getD k noTr) (by simp [List.getD,List.getElem?_eq_getElem hk])
 exact ⟨b,o,cap,vi,ve,by rw [hv,hA],hc,hlt,h0,h1⟩
theorem few_states {C:Ch} (h:40 < C.sts.length):fewB C=false:=by unfold fewB; rw [show decide (C.sts.length≤40)=false by simp; omega]; rfl
theorem few_trans {C:Ch} (h:60 < C.trs.length):fewB C=false:=by unfold fewB; rw [show decide (C.trs.length≤60)=false by simp; omega]; simp
theorem few_st {C:Ch} (k:Nat) (hk:k < C.sts.length) (h:fewStB (C.sts.getD k noSt)=false):fewB C=false:=by unfold fewB; rw [allU_false k hk h]; simp
theorem few_tr {C:Ch} (k:Nat) (hk:k < C.trs.length) (h:fewTrB (C.trs.getD k noTr)=false):fewB C=false:=by unfold fewB; rw [allU_false k hk h]; simp
theorem few_all {C:Ch} (h1:C.sts.length≤40) (h2:C.trs.length≤60) (h3:∀ k,k < C.sts.length→fewStB (C.sts.getD k noSt)=true) (h4:∀ k,k < C.trs.length→fewTrB (C.trs.getD k noTr)=true):fewB C=true:=by
 unfold fewB; rw [allU_true h3,allU_true h4]; simp [h1,h2]
theorem upto_succ {k:Nat} {f:Nat→Bool} (h:∀ j,j < k→f j=true) (hk:f k=true):∀ j,j < k+1→f j=true:=fun j hj=>by
 by_cases he:j=k
 · rw [he]; exact hk
 · exact h j (by omega)
set_option maxHeartbeats 4000000 in
set_option maxRecDepth 100000 in
theorem few_any (vr:Int) (vs vt:Value) (C:Ch) (w:World) (hC:ChHas w vs vt C) (hl:ShortCh C) :
 Calls Tryz.prog 7 #[.agg #[.int .i64 vr,vs,vt]] w fun e w'=>e=.returned (.bool (fewB C))∧Below w.heap.size w w':=by
 have hls:=hl.sts
 have hlt:=hl.trs
 unfold Short at hls hlt
 have HB:=Lib.hid (below_box w (chBox vr vs vt))
 have HC:=Lib.hid hC
 have HSH:=Lib.hid hl
 obtain ⟨A,cap,rfl,hcap⟩:=RowsAt.slice hC.1
 obtain ⟨A2,cap2,rfl,hcap2⟩:=RowsAt.slice hC.2
 clear hC hl
 by_cases h40:40 < C.sts.length
 · have hd1:decide ((40:Int) < (C.sts.length:Int))=true:=by simp; omega
   have hd2:decide (40 < C.sts.length)=true:=by simpa using h40
   have HR:=Lib.hid (few_states h40)
   clear h40
   go_enter Tryz.func7,Tryz.ntmps7
   go_wp2_with fail
   go_ret
   exact ⟨ret_bool HR.out.symm,HB.out⟩
 · have hd1:decide ((40:Int) < (C.sts.length:Int))=false:=by simp; omega
   have hd2:decide (40 < C.sts.length)=false:=by simpa using h40
   by_cases h60:60 < C.trs.length
   · have hd3:decide ((60:Int) < (C.trs.length:Int))=true:=by simp; omega
     have hd4:decide (60 < C.trs.length)=true:=by simpa using h60
     have HR:=Lib.hid (few_trans h60)
     clear h60
     go_enter Tryz.func7,Tryz.ntmps7
     go_wp2_with fail
     go_ret
     exact ⟨ret_bool HR.out.symm,HB.out⟩
   · have hd3:decide ((60:Int) < (C.trs.length:Int))=false:=by simp; omega
     have hd4:decide (60 < C.trs.length)=false:=by simpa using h60
     have HALL:=Lib.hid (few_all (C:=C) (by omega) (by omega))
     have HST:=Lib.hid (fun k hk h=>few_st (C:=C) k hk h)
     have HTR:=Lib.hid (fun k hk h=>few_tr (C:=C) k hk h)
     generalize fewB C=R at *
     go_enter Tryz.func7,Tryz.ntmps7
     go_wp2_with fail
     go_loop [3] (fun i=>∃ k:Nat,k≤C.sts.length∧i=.int .i64 (k:Int)∧Hid (∀ j,j < k→fewStB (C.sts.getD j noSt)=true)) (fun i=>C.sts.length - (intOf i).toNat)
     case atStart=>exact ⟨0,Nat.zero_le _,rfl,Lib.hid (fun j hj=>by omega)⟩
     case round =>
      obtain ⟨k,hk,rfl,HO⟩:=hrel
      by_cases hkl:k < C.sts.length
      · obtain ⟨b,o,cap',vi,ve,vx,hsl,_,hbl,hst,hhas⟩:=HC.out.st hkl
        injection hsl with e1 e2 e3
        subst e1
        obtain ⟨c0,c1,c2,c3,c4⟩:=hst
        have hsh:=HSH.out.st k hkl
        have hbad:=HST.out k hkl
        have hgood:=upto_succ (f:=fun j=>fewStB (C.sts.getD j noSt)) HO.out
        rw [show stAt C.sts (k:Int)=C.sts.getD k noSt from rfl] at hhas c0 c1
        generalize C.sts.getD k noSt=S at *
        obtain ⟨iA,icap,eA,ecap,xA,xcap,rfl,rfl,rfl⟩:=hhas.slices
        have HE:=Lib.hid (fewActs_any _ S.ent _ (hhas.2.1.below HB.out) hsh.2.1)
        have HX:=Lib.hid (fewActs_any _ S.exi _ (hhas.2.2.below HB.out) hsh.2.2)
        have hil:=hsh.1
        unfold Short at hil
        unfold fewStB at hbad hgood
        clear hhas hsh e2 e3
        cases he:fewActsB S.ent with
        | false =>
         have HBAD:=Lib.hid (hbad (by rw [he]; rfl))
         have HEE:=Lib.hid he
         clear he hbad hgood
         go_wp2_with fail
         refine HE.out.mono ?_
         rintro e w' ⟨rfl,rfl⟩
         rw [HEE.out]
         go_wp2_with fail
         refine HX.out.mono ?_
         rintro e w' ⟨rfl,rfl⟩
         go_wp2_with fail
         go_ret
         exact ⟨ret_bool HBAD.out.symm,HB.out⟩
        | true =>
         cases hx:fewActsB S.exi with
         | false =>
          have HBAD:=Lib.hid (hbad (by rw [he,hx]; rfl))
          have HEE:=Lib.hid he
          have HXX:=Lib.hid hx
          clear he hx hbad hgood
          go_wp2_with fail
          refine HE.out.mono ?_
          rintro e w' ⟨rfl,rfl⟩
          rw [HEE.out]
          go_wp2_with fail
          refine HX.out.mono ?_
          rintro e w' ⟨rfl,rfl⟩
          rw [HXX.out]
          go_wp2_with fail
          go_ret
          exact ⟨ret_bool HBAD.out.symm,HB.out⟩
         | true =>
          by_cases hi:20 < S.ini.length
          · have hi1:decide ((20:Int) < (S.ini.length:Int))=true:=by simp; omega
            have hi2:decide (20 < S.ini.length)=true:=by simpa using hi
            have HBAD:=Lib.hid (hbad (by rw [he,hx,show decide (S.ini.length≤20)=false by simp; omega]; rfl))
            have HEE:=Lib.hid he
            have HXX:=Lib.hid hx
            clear he hx hbad hgood hi
            go_wp2_with fail
            refine HE.out.mono ?_
            rintro e w' ⟨rfl,rfl⟩
            rw [HEE.out]
            go_wp2_with fail
            refine HX.out.mono ?_
            rintro e w' ⟨rfl,rfl⟩
            rw [HXX.out]
            go_wp2_with fail
            go_ret
            exact ⟨ret_bool HBAD.out.symm,HB.out⟩
          · have hi1:decide ((20:Int) < (S.ini.length:Int))=false:=by simp; omega
            have hi2:decide (20 < S.ini.length)=false:=by simpa using hi
            have HGOOD:=Lib.hid (hgood (by rw [he,hx,show decide (S.ini.length≤20)=true by simp; omega]; rfl))
            have HEE:=Lib.hid he
            have HXX:=Lib.hid hx
            clear he hx hbad hgood hi
            go_wp2_with fail
            refine HE.out.mono ?_
            rintro e w' ⟨rfl,rfl⟩
            rw [HEE.out]
            go_wp2_with fail
            refine HX.out.mono ?_
            rintro e w' ⟨rfl,rfl⟩
            rw [HXX.out]
            go_wp2
            go_round
            case rel=>exact ⟨k+1,by omega,by go_num,Lib.hid (by simpa only [fewStB] using HGOOD.out)⟩
            case measure=>simp [intOf]; omega
      · obtain rfl:k=C.sts.length:=by omega
        have HALL2:=Lib.hid (HALL.out HO.out)
        clear HALL HST HO
        go_wp2_with fail
        go_loop [6] (fun i=>∃ k:Nat,k≤C.trs.length∧i=.int .i64 (k:Int)∧Hid (∀ j,j < k→fewTrB (C.trs.getD j noTr)=true)) (fun i=>C.trs.length - (intOf i).toNat)
        case atStart=>exact ⟨0,Nat.zero_le _,rfl,Lib.hid (fun j hj=>by omega)⟩
        case round =>
         obtain ⟨k,hk,rfl,HO⟩:=hrel
         by_cases hkl:k < C.trs.length
         · obtain ⟨b,o,cap',vi,ve,hsl,_,hbl,hst,hhas⟩:=HC.out.tr hkl
           injection hsl with e1 e2 e3
           subst e1
           obtain ⟨c0,c1,c2,c3,c4,c5⟩:=hst
           have hsh:=HSH.out.tr k hkl
           have hbad:=HTR.out k hkl
           have hgood:=upto_succ (f:=fun j=>fewTrB (C.trs.getD j noTr)) HO.out
           generalize C.trs.getD k noTr=S at *
           obtain ⟨tA,tcap,aA,acap,rfl,rfl⟩:=hhas.slices
           have HE:=Lib.hid (fewActs_any _ S.acts _ (hhas.2.below HB.out) hsh.2)
           have hil:=hsh.1
           unfold Short at hil
           unfold fewTrB at hbad hgood
           clear hhas hsh e2 e3
           cases he:fewActsB S.acts with
           | false =>
            have HBAD:=Lib.hid (hbad (by rw [he]; rfl))
            have HEE:=Lib.hid he
            clear he hbad hgood
            go_wp2_with fail
            refine HE.out.mono ?_
            rintro e w' ⟨rfl,rfl⟩
            rw [HEE.out]
            go_wp2_with fail
            go_ret
            exact ⟨ret_bool HBAD.out.symm,HB.out⟩
           | true =>
            by_cases hi:20 < S.tgts.length
            · have hi1:decide ((20:Int) < (S.tgts.length:Int))=true:=by simp; omega
              have hi2:decide (20 < S.tgts.length)=true:=by simpa using hi
              have HBAD:=Lib.hid (hbad (by rw [he,show decide (S.tgts.length≤20)=false by simp; omega]; rfl))
              have HEE:=Lib.hid he
              clear he hbad hgood hi
              go_wp2_with fail
              refine HE.out.mono ?_
              rintro e w' ⟨rfl,rfl⟩
              rw [HEE.out]
              go_wp2_with fail
              go_ret
              exact ⟨ret_bool HBAD.out.symm,HB.out⟩
            · have hi1:decide ((20:Int) < (S.tgts.length:Int))=false:=by simp; omega
              have hi2:decide (20 < S.tgts.length)=false:=by simpa using hi
              by_cases hg:500 < S.guard.size
              · have hg1:decide ((500:Int) < (S.guard.size:Int))=true:=by simp; omega
                have hg2:decide (500 < S.guard.size)=true:=by simpa using hg
                have HBAD:=Lib.hid (hbad (by rw [show decide (S.guard.size≤500)=false by simp; omega]; simp))
                have HEE:=Lib.hid he
                clear he hbad hgood hi hg
                go_wp2_with fail
                refine HE.out.mono ?_
                rintro e w' ⟨rfl,rfl⟩
                rw [HEE.out]
                go_wp2_with fail
                go_ret
                exact ⟨ret_bool HBAD.out.symm,HB.out⟩
              · have hg1:decide ((500:Int) < (S.guard.size:Int))=false:=by simp; omega
                have hg2:decide (500 < S.guard.size)=false:=by simpa using hg
                have HGOOD:=Lib.hid (hgood (by rw [he,show decide (S.tgts.length≤20)=true by simp; omega,show decide (S.guard.size≤500)=true by simp; omega]; rfl))
                have HEE:=Lib.hid he
                clear he hbad hgood hi hg
                go_wp2_with fail
                refine HE.out.mono ?_
                rintro e w' ⟨rfl,rfl⟩
                rw [HEE.out]
                go_wp2
                go_round
                case rel=>exact ⟨k+1,by omega,by go_num,Lib.hid (by simpa only [fewTrB] using HGOOD.out)⟩
                case measure=>simp [intOf]; omega
         · obtain rfl:k=C.trs.length:=by omega
           have HALL3:=Lib.hid (HALL2.out HO.out)
           clear HALL2 HTR HO
           go_wp2_with fail
           go_ret
           exact ⟨ret_bool HALL3.out.symm,HB.out⟩

theorem list_of {α:Type} (P:Nat→α→Prop):∀ (len:Nat),(∀ i,i < len→∃ x,P i x)→∃ xs:List α,xs.length=len∧∀ (i:Nat) (x:α),xs[i]?=some x→P i x
 | 0,_=>⟨[],rfl,fun i x h=>by simp at h⟩
 | n+1,h=>by
  obtain ⟨xs,hl,hx⟩:=list_of P n (fun i hi=>h i (by omega))
  obtain ⟨y,hy⟩:=h n (by omega)
  refine ⟨xs ++ [y],by simp [hl],fun i x hi=>?_⟩
  by_cases hin:i < xs.length
  · rw [List.getElem?_append_left hin] at hi
    exact hx i x hi
  · rw [List.getElem?_append_right (by omega)] at hi
    have hi0:i - xs.length=0:=by
     have:=(List.getElem?_eq_some_iff.1 hi).1
     simp at this
     omega
    rw [hi0] at hi
    simp at hi
    subst hi
    rw [show i=n by omega]
    exact hy
theorem flat_of_cell {W:World} {a:Addr} {v:Value} (h:W.cell? a=some v):a=⟨a.block,a.off,none⟩:=by
 obtain ⟨b,o,s⟩:=a
 unfold World.cell? at h
 split at h
 · cases s with
   | none=>rfl
   | some x=>simp at h
 · cases h
theorem flat_add (b o i:Nat):(⟨b,o,none⟩:Addr).add i=⟨b,o+i,none⟩:=by
 unfold Addr.add
 by_cases h:i=0 <;> simp [h]

section
variable {H:Type} {enc:TypeId × Value→H} {W:World}
theorem k3:Tryz.prog.cellsOf 3=1:=by kernel_rfl
theorem k4:Tryz.prog.cellsOf 4=1:=by kernel_rfl
theorem k9:Tryz.prog.cellsOf 9=1:=by kernel_rfl
theorem k29:Tryz.prog.cellsOf 36=1:=by kernel_rfl
theorem k36:Tryz.prog.cellsOf 61=1:=by kernel_rfl
theorem k25:Tryz.prog.cellsOf 25=3:=by kernel_rfl
theorem k38:Tryz.prog.cellsOf 63=5:=by kernel_rfl
theorem k43:Tryz.prog.cellsOf 66=6:=by kernel_rfl
theorem k54:Tryz.prog.cellsOf 104=4:=by kernel_rfl

theorem cells_at {b o n:Nat} {cs:List Value} (h:W.cells? 0 ⟨b,o,none⟩ n=some cs):cs.length=n∧∀ j,j < n→W.cell? ⟨b,o+j,none⟩=cs[j]?:=by
 obtain ⟨_,hl,z⟩:=World.cells?_some h
 refine ⟨hl,fun j hj=>?_⟩
 have:=z j hj
 rwa [flat_add] at this
theorem rows_of {α:Type} {n:Nat} {P:World→Nat→Nat→α→Prop} {G:α→Prop} {st e:TypeId} (hst:Tryz.prog.underlying st=some (.slice e)) (hn:Tryz.prog.cellsOf e=n) (hpos:0 < n)
 (hel:∀ (b o fuel:Nat) (cs:List Value) (y:DataW H × List MemPlace),W.cells? 0 ⟨b,o,none⟩ n=some cs→DataW.trod enc Tryz.prog W 0 (fun _=>true) true fuel e cs=some y→∃ x,P W b o x∧G x)
 {v:Value} {fuel:Nat} {y:DataW H × List MemPlace} (hf:DataW.trod enc Tryz.prog W 0 (fun _=>true) true fuel st [v]=some y) :
 ∃ xs:List α,RowsAt n P W v xs∧(∀ (i:Nat) (x:α),xs[i]?=some x→G x)∧Short xs.length:=by
 rcases Deep.open_slice hst hf with ⟨h0,_⟩ | ⟨a,len,cap,m,n',D,Pl,hcs,hb,hl,hm,hmm,hx,hi⟩
 · simp only [List.cons.injEq,and_true] at h0
   subst h0
   exact ⟨[],RowsAt.nil W,fun i x h=>by simp at h,by unfold Short; simp⟩
 · simp only [List.cons.injEq,and_true] at hcs
   subst hcs
   simp only [if_true] at hmm
   subst hmm
   rw [hn] at hi
   have hsh:Short len:=by unfold maxLen at hm; unfold Short; omega
   by_cases hlen:len=0
   · subst hlen
     exact ⟨[],⟨some a,m,rfl,Nat.zero_le _,fun i x h=>by simp at h⟩,fun i x h=>by simp at h,hsh⟩
   · have ha:a=⟨a.block,a.off,none⟩:=by
      obtain ⟨cs',hc,_⟩:=hi 0 (by omega)
      obtain ⟨_,hcl,z⟩:=World.cells?_some hc
      have z0:=z 0 hpos
      rw [List.getElem?_eq_getElem (by omega),Nat.zero_mul] at z0
      have e1:(a.add 0).add 0=a:=by simp [Addr.add]
      rw [e1] at z0
      exact flat_of_cell z0
     rw [ha] at hi ⊢
     generalize a.block=b at *
     generalize a.off=o at *
     obtain ⟨xs,hxl,hxs⟩:=list_of (fun i (x:α)=>b < W.heap.size∧P W b (o+i * n) x∧G x) len (fun i hil=>by
      obtain ⟨cs',hc,ht⟩:=hi i (by omega)
      rw [flat_add] at hc
      obtain ⟨hcl,hat⟩:=cells_at hc
      have h0:=hat 0 hpos
      rw [List.getElem?_eq_getElem (by omega)] at h0
      obtain ⟨x,h1,h2⟩:=hel b (o+i * n) _ cs' _ hc ht
      exact ⟨x,Lib.lt_of_cell (a:=⟨b,_,none⟩) h0,h1,h2⟩)
     refine ⟨xs,⟨some ⟨b,o,none⟩,m,by rw [hxl],by rw [hxl]; exact hl,fun i x hx=>?_⟩,fun i x hx=>(hxs i x hx).2.2,by rw [hxl]; exact hsh⟩
     obtain ⟨q1,q2,_⟩:=hxs i x hx
     exact ⟨b,o,rfl,q1,q2⟩
theorem ints_of {v:Value} {fuel:Nat} {y:DataW H × List MemPlace} (hf:DataW.trod enc Tryz.prog W 0 (fun _=>true) true fuel 36 [v]=some y):∃ xs:List Int,ListAt W v xs∧Short xs.length:=by
 obtain ⟨xs,h1,_,h2⟩:=rows_of (P:=IntAt) (G:=fun _=>True) (n:=1) Tryz.underlying36 k3 (by decide) (fun b o fuel cs y hc ht=>by
  obtain ⟨k,hk,_⟩:=DataW.trod_int Tryz.underlying3 ht
  subst hk
  have:=(cells_at hc).2 0 (by decide)
  exact ⟨k,this,trivial⟩) hf
 exact ⟨xs,h1,h2⟩
set_option maxRecDepth 100000 in
theorem acts_of {v:Value} {fuel:Nat} {y:DataW H × List MemPlace} (hf:DataW.trod enc Tryz.prog W 0 (fun _=>true) true fuel 61 [v]=some y):∃ xs:List Ac,ActsAt W v xs∧Short xs.length:=by
 obtain ⟨xs,h1,_,h2⟩:=rows_of (P:=AcAt) (G:=fun _=>True) (n:=4) Tryz.underlying61 k54 (by decide) (fun b o fuel cs y hc ht=>by
  obtain ⟨hcl,hat⟩:=cells_at hc
  obtain ⟨xs,m,_,_,hlen,hxs,hg⟩:=DataW.trod_struct Tryz.underlying104 ht
  match cs,hcl with
  | [v0,v1,v2,v3],_ =>
   match xs,hxs with
   | [x0,x1,x2,x3],_ =>
    have g0:DataW.trod enc Tryz.prog W 0 (fun _=>true) true m 3 (([v0,v1,v2,v3].drop 0).take (Tryz.prog.cellsOf 3))=some x0:=hg 0 _ rfl
    have g1:DataW.trod enc Tryz.prog W 0 (fun _=>true) true m 3 (([v0,v1,v2,v3].drop 1).take (Tryz.prog.cellsOf 3))=some x1:=hg 1 _ rfl
    have g2:DataW.trod enc Tryz.prog W 0 (fun _=>true) true m 3 (([v0,v1,v2,v3].drop 2).take (Tryz.prog.cellsOf 3))=some x2:=hg 2 _ rfl
    have g3:DataW.trod enc Tryz.prog W 0 (fun _=>true) true m 9 (([v0,v1,v2,v3].drop 3).take (Tryz.prog.cellsOf 9))=some x3:=hg 3 _ rfl
    rw [k3] at g0 g1 g2
    rw [k9] at g3
    obtain ⟨k,hk,_⟩:=DataW.trod_int Tryz.underlying3 (show DataW.trod enc Tryz.prog W 0 (fun _=>true) true m 3 [v0]=some x0 from g0)
    obtain ⟨n,hn,_⟩:=DataW.trod_int Tryz.underlying3 (show DataW.trod enc Tryz.prog W 0 (fun _=>true) true m 3 [v1]=some x1 from g1)
    obtain ⟨q,hq,_⟩:=DataW.trod_int Tryz.underlying3 (show DataW.trod enc Tryz.prog W 0 (fun _=>true) true m 3 [v2]=some x2 from g2)
    obtain ⟨s,hs,_⟩:=DataW.trod_string Tryz.underlying9 (show DataW.trod enc Tryz.prog W 0 (fun _=>true) true m 9 [v3]=some x3 from g3)
    simp only [List.cons.injEq,and_true] at hk hn hq hs
    subst hk; subst hn; subst hq; subst hs
    exact ⟨⟨k,n,q,s⟩,⟨hat 0 (by decide),hat 1 (by decide),hat 2 (by decide),hat 3 (by decide)⟩,trivial⟩) hf
 exact ⟨xs,h1,h2⟩
set_option maxRecDepth 100000 in
theorem sts_of {v:Value} {fuel:Nat} {y:DataW H × List MemPlace} (hf:DataW.trod enc Tryz.prog W 0 (fun _=>true) true fuel 22 [v]=some y):∃ xs:List St,StsAt W v xs∧(∀ (i:Nat) (x:St),xs[i]?=some x→ShortSt x)∧Short xs.length:=by
 exact rows_of (P:=StAt) (G:=ShortSt) (n:=5) Tryz.underlying22 k38 (by decide) (fun b o fuel cs y hc ht=>by
  obtain ⟨hcl,hat⟩:=cells_at hc
  obtain ⟨xs,m,_,_,hlen,hxs,hg⟩:=DataW.trod_struct Tryz.underlying63 ht
  match cs,hcl with
  | [v0,v1,v2,v3,v4],_ =>
   match xs,hxs with
   | [x0,x1,x2,x3,x4],_ =>
    have g0:DataW.trod enc Tryz.prog W 0 (fun _=>true) true m 3 (([v0,v1,v2,v3,v4].drop 0).take (Tryz.prog.cellsOf 3))=some x0:=hg 0 _ rfl
    have g1:DataW.trod enc Tryz.prog W 0 (fun _=>true) true m 3 (([v0,v1,v2,v3,v4].drop 1).take (Tryz.prog.cellsOf 3))=some x1:=hg 1 _ rfl
    have g2:DataW.trod enc Tryz.prog W 0 (fun _=>true) true m 36 (([v0,v1,v2,v3,v4].drop 2).take (Tryz.prog.cellsOf 36))=some x2:=hg 2 _ rfl
    have g3:DataW.trod enc Tryz.prog W 0 (fun _=>true) true m 61 (([v0,v1,v2,v3,v4].drop 3).take (Tryz.prog.cellsOf 61))=some x3:=hg 3 _ rfl
    have g4:DataW.trod enc Tryz.prog W 0 (fun _=>true) true m 61 (([v0,v1,v2,v3,v4].drop 4).take (Tryz.prog.cellsOf 61))=some x4:=hg 4 _ rfl
    rw [k3] at g0 g1
    rw [k29] at g2
    rw [k36] at g3 g4
    obtain ⟨k,hk,_⟩:=DataW.trod_int Tryz.underlying3 (show DataW.trod enc Tryz.prog W 0 (fun _=>true) true m 3 [v0]=some x0 from g0)
    obtain ⟨p,hp,_⟩:=DataW.trod_int Tryz.underlying3 (show DataW.trod enc Tryz.prog W 0 (fun _=>true) true m 3 [v1]=some x1 from g1)
    obtain ⟨li,i1,i2⟩:=ints_of (show DataW.trod enc Tryz.prog W 0 (fun _=>true) true m 36 [v2]=some x2 from g2)
    obtain ⟨le,e1,e2⟩:=acts_of (show DataW.trod enc Tryz.prog W 0 (fun _=>true) true m 61 [v3]=some x3 from g3)
    obtain ⟨lx,q1,q2⟩:=acts_of (show DataW.trod enc Tryz.prog W 0 (fun _=>true) true m 61 [v4]=some x4 from g4)
    simp only [List.cons.injEq,and_true] at hk hp
    subst hk; subst hp
    exact ⟨⟨k,p,li,le,lx⟩,⟨v2,v3,v4,⟨hat 0 (by decide),hat 1 (by decide),hat 2 (by decide),hat 3 (by decide),hat 4 (by decide)⟩,i1,e1,q1⟩,i2,e2,q2⟩) hf
set_option maxRecDepth 100000 in
theorem trs_of {v:Value} {fuel:Nat} {y:DataW H × List MemPlace} (hf:DataW.trod enc Tryz.prog W 0 (fun _=>true) true fuel 23 [v]=some y):∃ xs:List Tr,TrsAt W v xs∧(∀ (i:Nat) (x:Tr),xs[i]?=some x→ShortTr x)∧Short xs.length:=by
 exact rows_of (P:=TrAt) (G:=ShortTr) (n:=6) Tryz.underlying23 k43 (by decide) (fun b o fuel cs y hc ht=>by
  obtain ⟨hcl,hat⟩:=cells_at hc
  obtain ⟨xs,m,_,_,hlen,hxs,hg⟩:=DataW.trod_struct Tryz.underlying66 ht
  match cs,hcl with
  | [v0,v1,v2,v3,v4,v5],_ =>
   match xs,hxs with
   | [x0,x1,x2,x3,x4,x5],_ =>
    have g0:DataW.trod enc Tryz.prog W 0 (fun _=>true) true m 3 (([v0,v1,v2,v3,v4,v5].drop 0).take (Tryz.prog.cellsOf 3))=some x0:=hg 0 _ rfl
    have g1:DataW.trod enc Tryz.prog W 0 (fun _=>true) true m 3 (([v0,v1,v2,v3,v4,v5].drop 1).take (Tryz.prog.cellsOf 3))=some x1:=hg 1 _ rfl
    have g2:DataW.trod enc Tryz.prog W 0 (fun _=>true) true m 9 (([v0,v1,v2,v3,v4,v5].drop 2).take (Tryz.prog.cellsOf 9))=some x2:=hg 2 _ rfl
    have g3:DataW.trod enc Tryz.prog W 0 (fun _=>true) true m 36 (([v0,v1,v2,v3,v4,v5].drop 3).take (Tryz.prog.cellsOf 36))=some x3:=hg 3 _ rfl
    have g4:DataW.trod enc Tryz.prog W 0 (fun _=>true) true m 4 (([v0,v1,v2,v3,v4,v5].drop 4).take (Tryz.prog.cellsOf 4))=some x4:=hg 4 _ rfl
    have g5:DataW.trod enc Tryz.prog W 0 (fun _=>true) true m 61 (([v0,v1,v2,v3,v4,v5].drop 5).take (Tryz.prog.cellsOf 61))=some x5:=hg 5 _ rfl
    rw [k3] at g0 g1
    rw [k9] at g2
    rw [k29] at g3
    rw [k4] at g4
    rw [k36] at g5
    obtain ⟨k,hk,_⟩:=DataW.trod_int Tryz.underlying3 (show DataW.trod enc Tryz.prog W 0 (fun _=>true) true m 3 [v0]=some x0 from g0)
    obtain ⟨p,hp,_⟩:=DataW.trod_int Tryz.underlying3 (show DataW.trod enc Tryz.prog W 0 (fun _=>true) true m 3 [v1]=some x1 from g1)
    obtain ⟨s,hs,_⟩:=DataW.trod_string Tryz.underlying9 (show DataW.trod enc Tryz.prog W 0 (fun _=>true) true m 9 [v2]=some x2 from g2)
    obtain ⟨li,i1,i2⟩:=ints_of (show DataW.trod enc Tryz.prog W 0 (fun _=>true) true m 36 [v3]=some x3 from g3)
    obtain ⟨q,hq,_⟩:=DataW.trod_bool Tryz.underlying4 (show DataW.trod enc Tryz.prog W 0 (fun _=>true) true m 4 [v4]=some x4 from g4)
    obtain ⟨le,e1,e2⟩:=acts_of (show DataW.trod enc Tryz.prog W 0 (fun _=>true) true m 61 [v5]=some x5 from g5)
    simp only [List.cons.injEq,and_true] at hk hp hs hq
    subst hk; subst hp; subst hs; subst hq
    exact ⟨⟨k,p,s,li,q,le⟩,⟨v3,v5,⟨hat 0 (by decide),hat 1 (by decide),hat 2 (by decide),hat 3 (by decide),hat 4 (by decide),hat 5 (by decide)⟩,i1,e1⟩,i2,e2⟩) hf
set_option maxRecDepth 100000 in
theorem chart_of_arg {base:Nat} {v:Value} {d:DataW H} {ps:List MemPlace} (hv:Value.okWide Tryz.prog W .any base 25 v) (h:DataW.Trod enc Tryz.prog W 0 (fun _=>true) true 25 v d ps) :
 ∃ (vs vt:Value) (C:Ch),v=.agg #[.int .i64 C.vars,vs,vt]∧ChHas W vs vt C∧ShortCh C:=by
 obtain ⟨v0,v1,v2,y0,y1,y2,n,rfl,_,_,g0,g1,g2⟩:=Go.Joins.open_agg3 Tryz.underlying25 (by kernel_rfl) k25 hv h
 obtain ⟨k,hk,_⟩:=DataW.trod_int Tryz.underlying3 g0
 obtain ⟨ss,s1,s2,s3⟩:=sts_of g1
 obtain ⟨ts,t1,t2,t3⟩:=trs_of g2
 simp only [List.cons.injEq,and_true] at hk
 subst hk
 refine ⟨v1,v2,⟨k,ss,ts⟩,rfl,⟨s1,t1⟩,s3,t3,fun i hi=>s2 i _ ?_,fun i hi=>t2 i _ ?_⟩
 · simp only at hi ⊢
   simp [List.getD,List.getElem?_eq_getElem hi]
 · simp only at hi ⊢
   simp [List.getD,List.getElem?_eq_getElem hi]

end
end Go.Proofs.YtmhkpjcdkjnlnaaGreatDoor
