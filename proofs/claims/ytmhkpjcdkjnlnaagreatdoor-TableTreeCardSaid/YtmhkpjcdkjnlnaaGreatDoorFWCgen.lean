/- How charts lie in memory: slices of numbers, actions, states and transitions; and that they lie so still where no old block has changed. No function is called in this text. -/
import Derived.Test.YtmhkpjcdkjnlnaaGreatDoorFWZgen
import Derived.Test.YtmhkpjcdkjnlnaaGreatDoorFWSpure
namespace Go.Proofs.YtmhkpjcdkjnlnaaGreatDoor
open Go.ChangeShapes Go.WideShapes Go.ChangeAt Go.RowKit
set_option linter.unusedVariables false

def RowsAt {α:Type} (n:Nat) (P:World→Nat→Nat→α→Prop) (w:World) (v:Value) (xs:List α):Prop :=
 ∃ (A:Option Addr) (cap:Nat),v=.slice A xs.length cap∧xs.length≤cap∧∀ (i:Nat) (x:α),xs[i]?=some x→∃ b o:Nat,A=some ⟨b,o,none⟩∧b < w.heap.size∧P w b (o+i * n) x
def Keeps {α:Type} (P:World→Nat→Nat→α→Prop):Prop:=∀ (w w':World) (b o:Nat) (x:α),Below w.heap.size w w'→b < w.heap.size→P w b o x→P w' b o x
theorem RowsAt.below {α:Type} {n:Nat} {P:World→Nat→Nat→α→Prop} (hP:Keeps P) {w w':World} {v:Value} {xs:List α} (h:RowsAt n P w v xs) (hb:Below w.heap.size w w'):RowsAt n P w' v xs:=by
 obtain ⟨A,cap,hv,hc,hi⟩:=h
 refine ⟨A,cap,hv,hc,fun i t ht=>?_⟩
 obtain ⟨b,o,hA,hlt,h0⟩:=hi i t ht
 exact ⟨b,o,hA,Nat.lt_of_lt_of_le hlt hb.size,hP w w' b _ t hb hlt h0⟩
theorem RowsAt.nil {α:Type} {n:Nat} {P:World→Nat→Nat→α→Prop} (w:World):RowsAt n P w (.slice none 0 0) ([]:List α):=⟨none,0,rfl,Nat.le_refl _,fun i t h=>by simp at h⟩
theorem RowsAt.take {α:Type} {n:Nat} {P:World→Nat→Nat→α→Prop} {w:World} {A:Option Addr} {len cap:Nat} {xs:List α} (h:RowsAt n P w (.slice A len cap) xs) (k:Nat) (hk:k≤len):RowsAt n P w (.slice A k cap) (xs.take k):=by
 obtain ⟨A',cap',hv,hc,hi⟩:=h
 injection hv with h1 h2 h3
 subst h1; subst h2; subst h3
 refine ⟨A,cap,by rw [List.length_take,Nat.min_eq_left hk],by rw [List.length_take]; omega,fun i t ht=>?_⟩
 rw [List.getElem?_take] at ht
 split at ht
 · exact hi i t ht
 · cases ht
def Short (n:Nat):Prop:=n≤9223372036854775807
def IntAt (w:World) (b o:Nat) (x:Int):Prop:=w.cell? ⟨b,o,none⟩=some (.int .i64 x)
theorem IntAt.keeps:Keeps IntAt:=fun w w' b o x hb hlt h=>(hb.cell (p:=⟨b,o,none⟩) hlt).trans h
def ListAt (w:World) (v:Value) (xs:List Int):Prop:=RowsAt 1 IntAt w v xs
theorem ListAt.below {w w':World} {v:Value} {xs:List Int} (h:ListAt w v xs) (hb:Below w.heap.size w w'):ListAt w' v xs:=RowsAt.below IntAt.keeps h hb

def AcAt (w:World) (b o:Nat) (a:Ac):Prop :=
 w.cell? ⟨b,o,none⟩=some (.int .i64 a.kind)∧w.cell? ⟨b,o+1,none⟩=some (.int .i64 a.n)∧w.cell? ⟨b,o+2,none⟩=some (.int .i64 a.m)∧w.cell? ⟨b,o+3,none⟩=some (.string a.expr)
theorem AcAt.keeps:Keeps AcAt:=fun w w' b o x hb hlt h =>
 ⟨(hb.cell (p:=⟨b,_,none⟩) hlt).trans h.1,(hb.cell (p:=⟨b,_,none⟩) hlt).trans h.2.1,(hb.cell (p:=⟨b,_,none⟩) hlt).trans h.2.2.1,(hb.cell (p:=⟨b,_,none⟩) hlt).trans h.2.2.2⟩
def ActsAt (w:World) (v:Value) (l:List Ac):Prop:=RowsAt 4 AcAt w v l
theorem ActsAt.below {w w':World} {v:Value} {l:List Ac} (h:ActsAt w v l) (hb:Below w.heap.size w w'):ActsAt w' v l:=RowsAt.below AcAt.keeps h hb

def StHas (w:World) (vi ve vx:Value) (s:St):Prop:=ListAt w vi s.ini∧ActsAt w ve s.ent∧ActsAt w vx s.exi
theorem StHas.below {w w':World} {vi ve vx:Value} {s:St} (h:StHas w vi ve vx s) (hb:Below w.heap.size w w'):StHas w' vi ve vx s:=⟨h.1.below hb,h.2.1.below hb,h.2.2.below hb⟩
theorem RowsAt.slice {α:Type} {n:Nat} {P:World→Nat→Nat→α→Prop} {w:World} {v:Value} {xs:List α} (h:RowsAt n P w v xs):∃ A cap,v=.slice A xs.length cap∧xs.length≤cap:=let ⟨A,cap,h1,h2,_⟩:=h; ⟨A,cap,h1,h2⟩
theorem StHas.slices {w:World} {vi ve vx:Value} {s:St} (h:StHas w vi ve vx s):∃ (iA:Option Addr) (icap:Nat) (eA:Option Addr) (ecap:Nat) (xA:Option Addr) (xcap:Nat),vi=.slice iA s.ini.length icap∧ve=.slice eA s.ent.length ecap∧vx=.slice xA s.exi.length xcap:=by
 obtain ⟨iA,icap,h1,_⟩:=RowsAt.slice h.1
 obtain ⟨eA,ecap,h2,_⟩:=RowsAt.slice h.2.1
 obtain ⟨xA,xcap,h3,_⟩:=RowsAt.slice h.2.2
 exact ⟨iA,icap,eA,ecap,xA,xcap,h1,h2,h3⟩
def StC (w:World) (b o:Nat) (s:St) (vi ve vx:Value):Prop :=
 w.cell? ⟨b,o,none⟩=some (.int .i64 s.kind)∧w.cell? ⟨b,o+1,none⟩=some (.int .i64 s.par)∧w.cell? ⟨b,o+2,none⟩=some vi∧w.cell? ⟨b,o+3,none⟩=some ve∧w.cell? ⟨b,o+4,none⟩=some vx
theorem StC.below {w w':World} {b o:Nat} {s:St} {vi ve vx:Value} (h:StC w b o s vi ve vx) (hb:Below w.heap.size w w') (hlt:b < w.heap.size):StC w' b o s vi ve vx :=
 ⟨(hb.cell (p:=⟨b,_,none⟩) hlt).trans h.1,(hb.cell (p:=⟨b,_,none⟩) hlt).trans h.2.1,(hb.cell (p:=⟨b,_,none⟩) hlt).trans h.2.2.1,(hb.cell (p:=⟨b,_,none⟩) hlt).trans h.2.2.2.1,(hb.cell (p:=⟨b,_,none⟩) hlt).trans h.2.2.2.2⟩
def StAt (w:World) (b o:Nat) (s:St):Prop:=∃ vi ve vx:Value,StC w b o s vi ve vx∧StHas w vi ve vx s
theorem StAt.keeps:Keeps StAt:=fun w w' b o x hb hlt ⟨vi,ve,vx,h0,h5⟩=>⟨vi,ve,vx,h0.below hb hlt,h5.below hb⟩
def StsAt (w:World) (v:Value) (l:List St):Prop:=RowsAt 5 StAt w v l
theorem StsAt.below {w w':World} {v:Value} {l:List St} (h:StsAt w v l) (hb:Below w.heap.size w w'):StsAt w' v l:=RowsAt.below StAt.keeps h hb

def TrHas (w:World) (vt va:Value) (t:Tr):Prop:=ListAt w vt t.tgts∧ActsAt w va t.acts
theorem TrHas.below {w w':World} {vt va:Value} {t:Tr} (h:TrHas w vt va t) (hb:Below w.heap.size w w'):TrHas w' vt va t:=⟨h.1.below hb,h.2.below hb⟩
theorem TrHas.slices {w:World} {vt va:Value} {t:Tr} (h:TrHas w vt va t):∃ (tA:Option Addr) (tcap:Nat) (aA:Option Addr) (acap:Nat),vt=.slice tA t.tgts.length tcap∧va=.slice aA t.acts.length acap:=by
 obtain ⟨tA,tcap,h1,_⟩:=RowsAt.slice h.1
 obtain ⟨aA,acap,h2,_⟩:=RowsAt.slice h.2
 exact ⟨tA,tcap,aA,acap,h1,h2⟩
def TrC (w:World) (b o:Nat) (t:Tr) (vt va:Value):Prop :=
 w.cell? ⟨b,o,none⟩=some (.int .i64 t.src)∧w.cell? ⟨b,o+1,none⟩=some (.int .i64 t.ev)∧w.cell? ⟨b,o+2,none⟩=some (.string t.guard)∧w.cell? ⟨b,o+3,none⟩=some vt∧w.cell? ⟨b,o+4,none⟩=some (.bool t.inner)∧w.cell? ⟨b,o+5,none⟩=some va
theorem TrC.below {w w':World} {b o:Nat} {t:Tr} {vt va:Value} (h:TrC w b o t vt va) (hb:Below w.heap.size w w') (hlt:b < w.heap.size):TrC w' b o t vt va :=
 ⟨(hb.cell (p:=⟨b,_,none⟩) hlt).trans h.1,(hb.cell (p:=⟨b,_,none⟩) hlt).trans h.2.1,(hb.cell (p:=⟨b,_,none⟩) hlt).trans h.2.2.1,(hb.cell (p:=⟨b,_,none⟩) hlt).trans h.2.2.2.1,(hb.cell (p:=⟨b,_,none⟩) hlt).trans h.2.2.2.2.1,(hb.cell (p:=⟨b,_,none⟩) hlt).trans h.2.2.2.2.2⟩
def TrAt (w:World) (b o:Nat) (t:Tr):Prop:=∃ vt va:Value,TrC w b o t vt va∧TrHas w vt va t
theorem TrAt.keeps:Keeps TrAt:=fun w w' b o x hb hlt ⟨vt,va,h0,h6⟩=>⟨vt,va,h0.below hb hlt,h6.below hb⟩
def TrsAt (w:World) (v:Value) (l:List Tr):Prop:=RowsAt 6 TrAt w v l
theorem TrsAt.below {w w':World} {v:Value} {l:List Tr} (h:TrsAt w v l) (hb:Below w.heap.size w w'):TrsAt w' v l:=RowsAt.below TrAt.keeps h hb

def ChHas (w:World) (vs vt:Value) (C:Ch):Prop:=StsAt w vs C.sts∧TrsAt w vt C.trs
theorem ChHas.below {w w':World} {vs vt:Value} {C:Ch} (h:ChHas w vs vt C) (hb:Below w.heap.size w w'):ChHas w' vs vt C:=⟨h.1.below hb,h.2.below hb⟩
theorem stAt_nat {S:List St} {k:Nat} (h:k < S.length):S[k]?=some (stAt S (k:Int)):=by
 unfold stAt
 simp [List.getD,List.getElem?_eq_getElem h]
theorem isSt_nat {S:List St} {s:Int} (h:isSt S s=true):∃ k:Nat,s=(k:Int)∧k < S.length:=by
 unfold isSt at h
 simp only [Bool.and_eq_true,decide_eq_true_eq] at h
 exact ⟨s.toNat,by omega,by omega⟩
theorem isSt_of {S:List St} {k:Nat} (h:k < S.length):isSt S (k:Int)=true:=by
 unfold isSt
 simp only [Bool.and_eq_true,decide_eq_true_eq]
 omega
theorem ChHas.st {w:World} {vs vt:Value} {C:Ch} (h:ChHas w vs vt C) {k:Nat} (hk:k < C.sts.length) :
 ∃ (b o cap:Nat) (vi ve vx:Value),vs=.slice (some ⟨b,o,none⟩) C.sts.length cap∧C.sts.length≤cap∧b < w.heap.size∧StC w b (o+k * 5) (stAt C.sts (k:Int)) vi ve vx∧StHas w vi ve vx (stAt C.sts (k:Int)):=by
 obtain ⟨⟨A,cap,hv,hc,hi⟩,_⟩:=h
 obtain ⟨b,o,hA,hlt,vi,ve,vx,h0,h1⟩:=hi k _ (stAt_nat hk)
 exact ⟨b,o,cap,vi,ve,vx,by rw [hv,hA],hc,hlt,h0,h1⟩
theorem ChHas.st' {w:World} {vt:Value} {C:Ch} {b o n cap:Nat} (h:ChHas w (.slice (some ⟨b,o,none⟩) n cap) vt C) {k:Nat} (hk:k < C.sts.length) :
 ∃ (vi ve vx:Value),StC w b (o+k * 5) (stAt C.sts (k:Int)) vi ve vx∧StHas w vi ve vx (stAt C.sts (k:Int)):=by
 obtain ⟨b',o',cap',vi,ve,vx,hv,_,_,h0,h1⟩:=h.st hk
 injection hv with e1 e2 e3
 injection e1 with e1
 injection e1 with e4 e5
 subst e4; subst e5
 exact ⟨vi,ve,vx,h0,h1⟩
abbrev chBox (vr:Int) (vs vt:Value):Obj:=.cells #[.int .i64 vr,vs,vt] 25
theorem below_box (w:World) (o:Obj):Below w.heap.size w (w.alloc o):=(Below.refl _ _).alloc (Nat.le_refl _) o
end Go.Proofs.YtmhkpjcdkjnlnaaGreatDoor
