/- Texts of the proof, put together. -/
import Derived.Lib.AtoiErrMem
import Derived.Lib.SmallJoins
import Derived.Deep.Slices
import Derived.ChangeArms
import Derived.OrdersHeld
import Derived.RegionTactic
import Derived.BigRegion
import Derived.StillTactics
import Derived.Laws.Pointers
import Derived.Deep.RegionHeld3
import Derived.Deep.RegionLaw
import Derived.Deep.AppendLies
import Derived.Deep.LoopGhost
import Derived.Deep.RegionWith
import Derived.Test.YtpekhdfmmkmjaaaGreatDoorG1
namespace Go.Proofs.YtpekhdfmmkmjaaaGreatDoor
set_option maxHeartbeats 4000000
set_option maxRecDepth 100000
set_option linter.unusedVariables false
open Go.Proofs.Tryz
open Go.ChangeShapes Go.WideShapes Go.ChangeAt Go.RowKit
def br{α:Type}(n:Nat)(P:ω->Nat->Nat->α->Prop)(w:ω)(v:Value)(xs:List α):Prop :=
 ∃(A:Option Addr)(d:Nat),v=.slice A xs.length d/\xs.length<=d/\∀(i:Nat)(x:α),xs[i]?=some x->∃b o:Nat,A=some (δ b o)/\b<w.heap.size/\P w b (o+i*n) x
def ai2{α:Type}(P:ω->Nat->Nat->α->Prop):Prop:=∀(w d:ω)(b o:Nat)(x:α),κ w d->b<w.heap.size->P w b o x->P d b o x
theorem br.below{α:Type}{n:Nat}{P:ω->Nat->Nat->α->Prop}(J:ai2 P){w d:ω}{v:Value}{xs:List α}(h:br n P w v xs)(y:κ w d):br n P d v xs:=by obtain ⟨A,E,Y,O,U⟩:=h;refine⟨A,E,Y,O,λi t V=>?_⟩;obtain⟨b,o,I,z,F⟩:=U i t V;exact⟨b,o,I,c8 z y.size,J w d b _ t y z F⟩
theorem br.nil{α:Type}{n:Nat}{P:ω->Nat->Nat->α->Prop}(w:ω):br n P w (.slice none 0 0) ([]:List α):=⟨none,0,rfl,ai _,λi t h=>by simp at h⟩
theorem br.take{α:Type}{n:Nat}{P:ω->Nat->Nat->α->Prop}{w:ω}{A:Option Addr}{y cap:Nat}{xs:List α}(h:br n P w (.slice A y cap) xs)(k:Nat)(J:k<=y):br n P w (.slice A k cap) (xs.take k):=by
 obtain⟨U,V,O,Y,I⟩:=h;injection O with z E F;subst z;subst E;subst F;refine⟨A,cap,by rw[jo,Nat.min_eq_left J],by rw[jo];omega,λi t d=>?_⟩;rw[gn]at d;split at d
 . exact I i t d
 . cases d
def dw(n:Nat):Prop:=n<=9223372036854775807
def d7(w:ω)(b o:Nat)(x:Int):Prop:=w.cell? (δ b o)=some (ι x)
theorem d7.keeps:ai2 d7:=λw z b o x d y h=>(d.cell (p:=(δ b o)) y).trans h
def dd(w:ω)(v:Value)(xs:List Int):Prop:=br 1 d7 w v xs
theorem dd.below{w d:ω}{v:Value}{xs:List Int}(h:dd w v xs)(y:κ w d):dd d v xs:=br.below d7.keeps h y
def aqd(w:ω)(b o:Nat)(a:Ac):Prop :=
 w.cell? (δ b o)=some (ι a.kind)/\w.cell? (δ b (o+1))=some (ι a.n)/\w.cell? (δ b (o+2))=some (ι a.m)/\w.cell? (δ b (o+3))=some (.string a.expr)
theorem aqd.keeps:ai2 aqd:=λw z b o x d y h =>
 ⟨(d.cell (p:=(δ b _)) y).trans h.1,(d.cell (p:=(δ b _)) y).trans h.2.1,(d.cell (p:=(δ b _)) y).trans h.2.2.1,(d.cell (p:=(δ b _)) y).trans h.2.2.2⟩
def oc(w:ω)(v:Value)(l:List Ac):Prop:=br 4 aqd w v l
theorem oc.below{w d:ω}{v:Value}{l:List Ac}(h:oc w v l)(y:κ w d):oc d v l:=br.below aqd.keeps h y
def aaz(w:ω)(y d z:Value)(s:St):Prop:=dd w y s.ip/\oc w d s.kv/\oc w z s.me
theorem aaz.below{w F:ω}{z y E:Value}{s:St}(h:aaz w z y E s)(d:κ w F):aaz F z y E s:=⟨h.1.below d,h.2.1.below d,h.2.2.below d⟩
theorem br.slice{α:Type}{n:Nat}{P:ω->Nat->Nat->α->Prop}{w:ω}{v:Value}{xs:List α}(h:br n P w v xs):∃A cap,v=.slice A xs.length cap/\xs.length<=cap:=let ⟨A,cap,d,y,_⟩:=h;⟨A,cap,d,y⟩
theorem aaz.slices{w:ω}{O J U:Value}{s:St}(h:aaz w O J U s):∃(z:Option Addr)(E:Nat)(d:Option Addr)(y:Nat)(F:Option Addr)(I:Nat),O=.slice z s.ip.length E/\J=.slice d s.kv.length y/\U=.slice F s.me.length I:=by obtain ⟨z,E,V,_⟩:=br.slice h.1;obtain⟨d,y,Y,_⟩:=br.slice h.2.1;obtain⟨F,I,Z,_⟩:=br.slice h.2.2;exact⟨z,E,d,y,F,I,V,Y,Z⟩
def StC(w:ω)(b o:Nat)(s:St)(y d z:Value):Prop :=
 w.cell? (δ b o)=some (ι s.kind)/\w.cell? (δ b (o+1))=some (ι s.par)/\w.cell? (δ b (o+2))=some y/\w.cell? (δ b (o+3))=some d/\w.cell? (δ b (o+4))=some z
theorem StC.below{w I:ω}{b o:Nat}{s:St}{E z F:Value}(h:StC w b o s E z F)(d:κ w I)(y:b<w.heap.size):StC I b o s E z F :=
 ⟨(d.cell (p:=(δ b _)) y).trans h.1,(d.cell (p:=(δ b _)) y).trans h.2.1,(d.cell (p:=(δ b _)) y).trans h.2.2.1,(d.cell (p:=(δ b _)) y).trans h.2.2.2.1,(d.cell (p:=(δ b _)) y).trans h.2.2.2.2⟩
def a6f(w:ω)(b o:Nat)(s:St):Prop:=∃y d z:Value,StC w b o s y d z/\aaz w y d z s
theorem a6f.keeps:ai2 a6f:=λw O b o x d E ⟨I,F,J,y,z⟩=>⟨I,F,J,y.below d E,z.below d⟩
def te(w:ω)(v:Value)(l:List St):Prop:=br 5 a6f w v l
theorem te.below{w d:ω}{v:Value}{l:List St}(h:te w v l)(y:κ w d):te d v l:=br.below a6f.keeps h y
def wc(w:ω)(vt d:Value)(t:Tr):Prop:=dd w vt t.cj/\oc w d t.acts
theorem wc.below{w z:ω}{vt y:Value}{t:Tr}(h:wc w vt y t)(d:κ w z):wc z vt y t:=⟨h.1.below d,h.2.below d⟩
theorem wc.slices{w:ω}{vt F:Value}{t:Tr}(h:wc w vt F t):∃(z:Option Addr)(E:Nat)(d:Option Addr)(y:Nat),vt=.slice z t.cj.length E/\F=.slice d t.acts.length y:=by obtain ⟨z,E,I,_⟩:=br.slice h.1;obtain⟨d,y,J,_⟩:=br.slice h.2;exact⟨z,E,d,y,I,J⟩
def TrC(w:ω)(b o:Nat)(t:Tr)(vt d:Value):Prop :=
 w.cell? (δ b o)=some (ι t.src)/\w.cell? (δ b (o+1))=some (ι t.ev)/\w.cell? (δ b (o+2))=some (.string t.guard)/\w.cell? (δ b (o+3))=some vt/\w.cell? (δ b (o+4))=some (.bool t.inner)/\w.cell? (δ b (o+5))=some d
theorem TrC.below{w E:ω}{b o:Nat}{t:Tr}{vt z:Value}(h:TrC w b o t vt z)(d:κ w E)(y:b<w.heap.size):TrC E b o t vt z :=
 ⟨(d.cell (p:=(δ b _)) y).trans h.1,(d.cell (p:=(δ b _)) y).trans h.2.1,(d.cell (p:=(δ b _)) y).trans h.2.2.1,(d.cell (p:=(δ b _)) y).trans h.2.2.2.1,(d.cell (p:=(δ b _)) y).trans h.2.2.2.2.1,(d.cell (p:=(δ b _)) y).trans h.2.2.2.2.2⟩
def a6c(w:ω)(b o:Nat)(t:Tr):Prop:=∃y d:Value,TrC w b o t y d/\wc w y d t
theorem a6c.keeps:ai2 a6c:=λw J b o x d E ⟨I,F,y,z⟩=>⟨I,F,y.below d E,z.below d⟩
def yx(w:ω)(v:Value)(l:List Tr):Prop:=br 6 a6c w v l
theorem yx.below{w d:ω}{v:Value}{l:List Tr}(h:yx w v l)(y:κ w d):yx d v l:=br.below a6c.keeps h y
def d8(w:ω)(vs vt:Value)(C:Ch):Prop:=te w vs C.ab/\yx w vt C.ay
theorem d8.below{w y:ω}{vs vt:Value}{C:Ch}(h:d8 w vs vt C)(d:κ w y):d8 y vs vt C:=⟨h.1.below d,h.2.below d⟩
theorem a2v{S:List St}{k:Nat}(h:k<S.length):S[k]?=some (aq S (k:Int)):=by unfold aq;simp[List.getD,ae h]
theorem fq{S:List St}{s:Int}(h:c6 S s=true):∃k:Nat,s=(k:Int)/\k<S.length:=by unfold c6 at h;simp only[bj,bi]at h;exact⟨s.toNat,by omega,by omega⟩
theorem ll{S:List St}{k:Nat}(h:k<S.length):c6 S (k:Int)=true:=by unfold c6;simp only[bj,bi];omega
theorem d8.st{w:ω}{vs vt:Value}{C:Ch}(h:d8 w vs vt C){k:Nat}(U:k<C.ab.length) :
 ∃(b o cap:Nat)(y d z:Value),vs=.slice (some (δ b o)) C.ab.length cap/\C.ab.length<=cap/\b<w.heap.size/\StC w b (o+k*5) (aq C.ab (k:Int)) y d z/\aaz w y d z (aq C.ab (k:Int)):=by
 obtain⟨⟨A,cap,Y,J,O⟩,_⟩:=h;obtain⟨b,o,I,V,y,d,z,E,F⟩:=O k _ (a2v U);exact⟨b,o,cap,y,d,z,by rw[Y,I],J,V,E,F⟩
theorem d8.st'{w:ω}{vt:Value}{C:Ch}{b o n cap:Nat}(h:d8 w (.slice (some (δ b o)) n cap) vt C){k:Nat}(U:k<C.ab.length) :
 ∃(y d z:Value),StC w b (o+k*5) (aq C.ab (k:Int)) y d z/\aaz w y d z (aq C.ab (k:Int)):=by
 obtain⟨Y,o',Z,y,d,z,V,_,_,J,O⟩:=h.st U;injection V with E e2 e3;injection E with E;injection E with F I;subst F;subst I;exact⟨y,d,z,J,O⟩
abbrev bu(d:Int)(vs vt:Value):Obj:=.cells #[ι d,vs,vt] 25
theorem ap(w:ω)(o:Obj):κ w (w.alloc o):=(ag _ _).alloc (ai _) o
theorem ada(v:Value)(l:List Ac)(w:ω)(hA:oc w v l)(hl:dw l.length) :
 Calls prog 19 #[v] w λe w'=>e=.returned (.bool (ly l))/\w=w':=by
 unfold dw at hl;obtain⟨A,av,rfl,a0,V⟩:=hA;have HE:=aa V;have am:Hid ((∀i,i<l.length->decide ((l.getD i acx).expr.size<=500)=true)->ly l=decide (l.length<=20)):=aa (λh=>by unfold ly;rw[nh h];rfl);have ad:Hid (∀i,i<l.length->decide ((l.getD i acx).expr.size<=500)=false->ly l=false):=aa (λi hi h=>by unfold ly;rw[oa i hi h];rfl);generalize ly l=R at *;clear V;go_enter func19,ntmps19;go_wp2_with fail;go_loop [3] (λi=>∃k:Nat,k<=l.length/\i=ι (k:Int)/\Hid (∀j,j<k->decide ((l.getD j acx).expr.size<=500)=true)) (λi=>l.length-(intOf i).toNat)
 case atStart=>exact ⟨0,ar _,rfl,aa (λj hj=>by omega)⟩
 case round =>
  obtain⟨k,hk,rfl,J⟩:=hrel;by_cases Z:k<l.length
  . have Y:l[k]?=some (l.getD k acx):=(by simp[List.getD,ae Z]);obtain⟨b,o,rfl,ax,hc⟩:=HE.out k _ Y;obtain⟨c0,c1,c2,c3⟩:=hc;have O:=ad.out k Z;have U:decide ((l.getD k acx).expr.size<=500)=true->∀j,j<k+1->decide ((l.getD j acx).expr.size<=500)=true:=λh j hj=>by
     by_cases he:j=k
     . rw[he];exact h
     . exact J j (by omega)
    generalize l.getD k acx=a at *;have ak:=aa O;have al:=aa U;clear Y O U;by_cases d:500<a.expr.size
    . have I:decide ((500:Int)<(a.expr.size:Int))=true:=(by simp;omega);have z:decide (500<a.expr.size)=true:=(by simpa using d);have F:=aa d;clear d;go_wp2;go_ret;exact⟨az (ak (by simp;exact F)).symm,rfl⟩
    . have I:decide ((500:Int)<(a.expr.size:Int))=false:=(by simp;omega);have z:decide (500<a.expr.size)=false:=(by simpa using d);have F:=aa d;clear d;go_wp2;go_round
      case rel=>exact ⟨k+1,by omega,by go_num,aa (al (by simp;have:=F.out;omega))⟩
      case measure=>simp[intOf];omega
  . obtain rfl:k=l.length:=(by omega);have y:=am.out J;by_cases d:l.length<=20
    . have I:decide ((l.length:Int)<=(20:Int))=true:=(by simp;omega);have z:decide (l.length<=20)=true:=(by simpa using d);rw[z]at y;have E:=aa y;clear y d;go_wp2;go_ret;exact⟨az E.symm,rfl⟩
    . have I:decide ((l.length:Int)<=(20:Int))=false:=(by simp;omega);have z:decide (l.length<=20)=false:=(by simpa using d);rw[z]at y;have E:=aa y;clear y d;go_wp2;go_ret;exact⟨az E.symm,rfl⟩
def ap7(s:St):Prop:=dw s.ip.length/\dw s.kv.length/\dw s.me.length
def ajz(t:Tr):Prop:=dw t.cj.length/\dw t.acts.length
structure ap8 (C:Ch):Prop where
 ab:dw C.ab.length
 ay:dw C.ay.length
 st:∀(k:Nat),k<C.ab.length->ap7 (C.ab.getD k pz)
 tr:∀(k:Nat),k<C.ay.length->ajz (C.ay.getD k mt)
theorem d8.tr{w:ω}{vs vt:Value}{C:Ch}(h:d8 w vs vt C){k:Nat}(O:k<C.ay.length) :
 ∃(b o cap:Nat)(y d:Value),vt=.slice (some (δ b o)) C.ay.length cap/\C.ay.length<=cap/\b<w.heap.size/\TrC w b (o+k*6) (C.ay.getD k mt) y d/\wc w y d (C.ay.getD k mt):=by
 obtain⟨_,A,cap,V,I,J⟩:=h;obtain⟨b,o,F,U,Z,Y,z,E⟩:=J k (C.ay.getD k mt) (by simp[List.getD,ae O]);exact⟨b,o,cap,Z,Y,by rw[V,F],I,U,z,E⟩
theorem avs{C:Ch}(h:40<C.ab.length):fewB C=false:=by unfold fewB;rw[show decide (C.ab.length<=40)=false by simp;omega];rfl
theorem a0n{C:Ch}(h:60<C.ay.length):fewB C=false:=by unfold fewB;rw[show decide (C.ay.length<=60)=false by simp;omega];simp
theorem bbk{C:Ch}(k:Nat)(d:k<C.ab.length)(h:p7 (C.ab.getD k pz)=false):fewB C=false:=by unfold fewB;rw[oa k d h];simp
theorem bbj{C:Ch}(k:Nat)(d:k<C.ay.length)(h:qp (C.ay.getD k mt)=false):fewB C=false:=by unfold fewB;rw[oa k d h];simp
theorem a9a{C:Ch}(d:C.ab.length<=40)(y:C.ay.length<=60)(z:∀k,k<C.ab.length->p7 (C.ab.getD k pz)=true)(E:∀k,k<C.ay.length->qp (C.ay.getD k mt)=true):fewB C=true:=by unfold fewB;rw[nh z,nh E];simp[d,y]
theorem amz{k:Nat}{f:Nat->Bool}(h:∀j,j<k->f j=true)(y:f k=true):∀j,j<k+1->f j=true:=λj z=>by
 by_cases d:j=k
 . rw[d];exact y
 . exact h j (by omega)
theorem a89(vr:Int)(vs vt:Value)(C:Ch)(w:ω)(hC:d8 w vs vt C)(hl:ap8 C) :
 Calls prog 7 #[.agg #[ι vr,vs,vt]] w λe F=>e=.returned (.bool (fewB C))/\κ w F:=by
 have b5:=hl.ab;have b6:=hl.ay;unfold dw at b5 b6;have I:=aa (ap w (bu vr vs vt));have HC:=aa hC;have a4:=aa hl;obtain⟨A,b8,rfl,cb⟩:=br.slice hC.1;obtain⟨A2,b9,rfl,cc⟩:=br.slice hC.2;clear hC hl;by_cases al:40<C.ab.length
 . have bt:decide ((40:Int)<(C.ab.length:Int))=true:=(by simp;omega);have b0:decide (40<C.ab.length)=true:=(by simpa using al);have HR:=aa (avs al);clear al;go_enter func7,ntmps7;go_wp2;go_ret;exact⟨az HR.symm,I⟩
 . have bt:decide ((40:Int)<(C.ab.length:Int))=false:=(by simp;omega);have b0:decide (40<C.ab.length)=false:=(by simpa using al);by_cases am:60<C.ay.length
   . have b1:decide ((60:Int)<(C.ay.length:Int))=true:=(by simp;omega);have b2:decide (60<C.ay.length)=true:=(by simpa using am);have HR:=aa (a0n am);clear am;go_enter func7,ntmps7;go_wp2;go_ret;exact⟨az HR.symm,I⟩
   . have b1:decide ((60:Int)<(C.ay.length:Int))=false:=(by simp;omega);have b2:decide (60<C.ay.length)=false:=(by simpa using am);have a5:=aa (a9a (C:=C) (by omega) (by omega));have bb:=aa (λk hk h=>bbk (C:=C) k hk h);have bf:=aa (λk hk h=>bbj (C:=C) k hk h);generalize fewB C=R at *;go_enter func7,ntmps7;go_wp2_with fail;go_loop [3] (λi=>∃k:Nat,k<=C.ab.length/\i=ι (k:Int)/\Hid (∀j,j<k->p7 (C.ab.getD j pz)=true)) (λi=>C.ab.length-(intOf i).toNat)
     case atStart=>exact ⟨0,ar _,rfl,aa (λj hj=>by omega)⟩
     case round =>
      obtain⟨k,hk,rfl,HO⟩:=hrel;by_cases ad:k<C.ab.length
      . obtain⟨b,o,bk,vi,ve,vx,a2,_,bs,a3,V⟩:=HC.st ad;injection a2 with e1 e2 e3;subst e1;obtain⟨c0,c1,c2,c3,c4⟩:=a3;have Z:=a4.st k ad;have y:=bb.out k ad;have E:=amz (f:=λj=>p7 (C.ab.getD j pz)) HO;rw[show aq C.ab (k:Int)=C.ab.getD k pz from rfl]at V c0 c1;generalize C.ab.getD k pz=S at *;obtain⟨iA,ci,eA,ca,xA,co,rfl,rfl,rfl⟩:=V.slices;have U:=aa (ada _ S.kv _ (V.2.1.below I) Z.2.1);have HX:=aa (ada _ S.me _ (V.2.2.below I) Z.2.2);have a1:=Z.1;unfold dw at a1;unfold p7 at y E;clear V Z e2 e3;cases d:ly S.kv with
        | false =>have J:=aa (y (by rw[d];rfl));have z:=aa d;clear d y E;go_wp2_with fail;refine U.mono ?_;rintro e F⟨rfl,rfl⟩;rw[z.out];go_wp2_with fail;refine HX.mono ?_;rintro e F⟨rfl,rfl⟩;go_wp2;go_ret;exact⟨az J.symm,I⟩
        | true =>
         cases Y:ly S.me with
         | false =>
          have J:=aa (y (by rw[d,Y];rfl))
          have z:=aa d
          have ak:=aa Y
          clear d Y y E
          go_wp2_with fail
          refine U.mono ?_
          rintro e F⟨rfl,rfl⟩
          rw[z.out]
          go_wp2_with fail
          refine HX.mono ?_
          rintro e F⟨rfl,rfl⟩
          rw[ak.out]
          go_wp2
          go_ret
          exact⟨az J.symm,I⟩
         | true =>
          by_cases O:20<S.ip.length
          . have ax:decide ((20:Int)<(S.ip.length:Int))=true:=by simp;omega
            have a0:decide (20<S.ip.length)=true:=by simpa using O
            have J:=aa (y (by rw[d,Y,show decide (S.ip.length<=20)=false by simp;omega];rfl))
            have z:=aa d
            have ak:=aa Y
            clear d Y y E O
            go_wp2_with fail
            refine U.mono ?_
            rintro e F⟨rfl,rfl⟩
            rw[z.out]
            go_wp2_with fail
            refine HX.mono ?_
            rintro e F⟨rfl,rfl⟩
            rw[ak.out]
            go_wp2
            go_ret
            exact⟨az J.symm,I⟩
          . have ax:decide ((20:Int)<(S.ip.length:Int))=false:=by simp;omega
            have a0:decide (20<S.ip.length)=false:=by simpa using O
            have av:=aa (E (by rw[d,Y,show decide (S.ip.length<=20)=true by simp;omega];rfl))
            have z:=aa d
            have ak:=aa Y
            clear d Y y E O
            go_wp2_with fail
            refine U.mono ?_
            rintro e F⟨rfl,rfl⟩
            rw[z.out]
            go_wp2_with fail
            refine HX.mono ?_
            rintro e F⟨rfl,rfl⟩
            rw[ak.out]
            go_wp2
            go_round
            case rel=>exact ⟨k+1,by omega,by go_num,aa (by simpa only[p7] using av.out)⟩
            case measure=>simp[intOf];omega
      . obtain rfl:k=C.ab.length:=(by omega);have a9:=aa (a5 HO);go_wp2_with fail;go_loop [6] (λi=>∃k:Nat,k<=C.ay.length/\i=ι (k:Int)/\Hid (∀j,j<k->qp (C.ay.getD j mt)=true)) (λi=>C.ay.length-(intOf i).toNat)
        case atStart=>exact ⟨0,ar _,rfl,aa (λj hj=>by omega)⟩
        case round =>
         obtain⟨k,hk,rfl,HO⟩:=hrel;by_cases ad:k<C.ay.length
         . obtain⟨b,o,bk,vi,ve,a2,_,bs,a3,V⟩:=HC.tr ad;injection a2 with e1 e2 e3;subst e1;obtain⟨c0,c1,c2,c3,c4,c5⟩:=a3;have Z:=a4.tr k ad;have y:=bf.out k ad;have E:=amz (f:=λj=>qp (C.ay.getD j mt)) HO;generalize C.ay.getD k mt=S at *;obtain⟨tA,cl,aA,b7,rfl,rfl⟩:=V.slices;have U:=aa (ada _ S.acts _ (V.2.below I) Z.2);have a1:=Z.1;unfold dw at a1;unfold qp at y E;clear V Z e2 e3;cases d:ly S.acts with
           | false =>have J:=aa (y (by rw[d];rfl));have z:=aa d;clear d y E;go_wp2_with fail;refine U.mono ?_;rintro e F⟨rfl,rfl⟩;rw[z.out];go_wp2;go_ret;exact⟨az J.symm,I⟩
           | true =>
            by_cases O:20<S.cj.length
            . have ax:decide ((20:Int)<(S.cj.length:Int))=true:=(by simp;omega);have a0:decide (20<S.cj.length)=true:=(by simpa using O);have J:=aa (y (by rw[d,show decide (S.cj.length<=20)=false by simp;omega];rfl));have z:=aa d;clear d y E O;go_wp2_with fail;refine U.mono ?_;rintro e F⟨rfl,rfl⟩;rw[z.out];go_wp2;go_ret;exact⟨az J.symm,I⟩
            . have ax:decide ((20:Int)<(S.cj.length:Int))=false:=(by simp;omega);have a0:decide (20<S.cj.length)=false:=(by simpa using O);by_cases hg:500<S.guard.size
              . have b3:decide ((500:Int)<(S.guard.size:Int))=true:=(by simp;omega);have b4:decide (500<S.guard.size)=true:=(by simpa using hg);have J:=aa (y (by rw[show decide (S.guard.size<=500)=false by simp;omega];simp));have z:=aa d;clear d y E O hg;go_wp2_with fail;refine U.mono ?_;rintro e F⟨rfl,rfl⟩;rw[z.out];go_wp2;go_ret;exact⟨az J.symm,I⟩
              . have b3:decide ((500:Int)<(S.guard.size:Int))=false:=(by simp;omega);have b4:decide (500<S.guard.size)=false:=(by simpa using hg);have av:=aa (E (by rw[d,show decide (S.cj.length<=20)=true by simp;omega,show decide (S.guard.size<=500)=true by simp;omega];rfl));have z:=aa d;clear d y E O hg;go_wp2_with fail;refine U.mono ?_;rintro e F⟨rfl,rfl⟩;rw[z.out];go_wp2;go_round
                case rel=>exact ⟨k+1,by omega,by go_num,aa (by simpa only[qp] using av.out)⟩
                case measure=>simp[intOf];omega
         . obtain rfl:k=C.ay.length:=(by omega);have ba:=aa (a9 HO);go_wp2;go_ret;exact⟨az ba.symm,I⟩
theorem ao5{α:Type}(P:Nat->α->Prop):∀(z:Nat),(∀i,i<z->∃x,P i x)->∃xs:List α,xs.length=z/\∀(i:Nat)(x:α),xs[i]?=some x->P i x
 | 0,_=>⟨[],rfl,λi x h=>by simp at h⟩
 | n+1,h=>by
  obtain⟨xs,I,J⟩:=ao5 P n (λi d=>h i (by omega));obtain⟨y,O⟩:=h n (by omega);refine⟨xs ++ [y],by simp[I],λi x d=>?_⟩;by_cases F:i<xs.length
  . rw[kg F]at d;exact J i x d
  . rw[ga (by omega)]at d;have E:i-xs.length=0:=(by have:=(bo.1 d).1;simp at this;omega);rw[E]at d;simp at d;subst d;rw[show i=n by omega];exact O
theorem apj{W:ω}{a:Addr}{v:Value}(h:W.cell? a=some v):a=(δ a.block a.off):=by
 obtain⟨b,o,s⟩:=a;unfold World.cell? at h;split at h
 . cases s with
   | none=>rfl
   | some x=>simp at h
 . cases h
theorem yu(b o i:Nat):((δ b o):Addr).add i=(δ b (o+i)):=by unfold Addr.add;by_cases h:i=0<;>simp[h]
section
variable {H:Type} {enc:TypeId × Value→H} {W:World}
theorem k3:prog.cellsOf 3=1:=by kernel_rfl
theorem k4:prog.cellsOf 4=1:=by kernel_rfl
theorem k9:prog.cellsOf 9=1:=by kernel_rfl
theorem k29:prog.cellsOf 36=1:=by kernel_rfl
theorem k36:prog.cellsOf 57=1:=by kernel_rfl
theorem k25:prog.cellsOf 25=3:=by kernel_rfl
theorem k38:prog.cellsOf 59=5:=by kernel_rfl
theorem k43:prog.cellsOf 62=6:=by kernel_rfl
theorem k54:prog.cellsOf 92=4:=by kernel_rfl
theorem ade{b o n:Nat}{cs:List Value}(h:W.cells? 0 (δ b o) n=some cs):cs.length=n/\∀j,j<n->W.cell? (δ b (o+j))=cs[j]?:=by obtain ⟨_,y,z⟩:=World.cells?_some h;refine⟨y,λj d=>?_⟩;have:=z j d;rwa [yu]at this
theorem ajb{α:Type}{n:Nat}{P:ω->Nat->Nat->α->Prop}{G:α->Prop}{st e:TypeId}(a1:prog.underlying st=some (.slice e))(hn:prog.cellsOf e=n)(ad:0<n)
 (ax:∀(b o fuel:Nat)(cs:List Value)(y:DataW H×List MemPlace),W.cells? 0 (δ b o) n=some cs->DataW.trod enc prog W 0 (λ_=>true) true fuel e cs=some y->∃x,P W b o x/\G x)
 {v:Value}{fuel:Nat}{y:DataW H×List MemPlace}(hf:DataW.trod enc prog W 0 (λ_=>true) true fuel st [v]=some y) :
 ∃xs:List α,br n P W v xs/\(∀(i:Nat)(x:α),xs[i]?=some x->G x)/\dw xs.length:=by
 rcases Deep.open_slice a1 hf with ⟨d,_⟩ | ⟨a,O,a2,m,n',D,Pl,Y,hb,hl,hm,Z,I,F⟩
 . simp only[List.cons.injEq,and_true]at d;subst d;exact⟨[],br.nil W,λi x h=>by simp at h,by unfold dw;simp⟩
 . simp only[List.cons.injEq,and_true]at Y;subst Y;simp only[if_true]at Z;subst Z;rw[hn]at F;have ak:dw O:=(by unfold maxLen at hm;unfold dw;omega);by_cases a0:O=0
   . subst a0;exact⟨[],⟨some a,m,rfl,ar _,λi x h=>by simp at h⟩,λi x h=>by simp at h,ak⟩
   . have ha:a=(δ a.block a.off):=(by obtain ⟨V,E,_⟩:=F 0 (by omega);obtain⟨_,av,z⟩:=World.cells?_some E;have U:=z 0 ad;rw[ae (by omega),Nat.zero_mul]at U;have e1:(a.add 0).add 0=a:=(by simp[Addr.add]);rw[e1]at U;exact apj U);rw[ha]at F ⊢;generalize a.block=b at *;generalize a.off=o at *;obtain⟨xs,J,al⟩:=ao5 (λi(x:α)=>b<W.heap.size/\P W b (o+i*n) x/\G x) O (λi a3=>by obtain ⟨V,E,ht⟩:=F i (by omega);rw[yu]at E;obtain⟨av,am⟩:=ade E;have d:=am 0 ad;rw[ae (by omega)]at d;obtain⟨x,h1,h2⟩:=ax b (o+i*n) _ V _ E ht;exact⟨x,Lib.lt_of_cell (a:=(δ b _)) d,h1,h2⟩);refine⟨xs,⟨some (δ b o),m,by rw[J],by rw[J];exact hl,λi x I=>?_⟩,λi x I=>(al i x I).2.2,by rw[J];exact ak⟩;obtain⟨q1,q2,_⟩:=al i x I;exact⟨b,o,rfl,q1,q2⟩
theorem axp{v:Value}{fuel:Nat}{y:DataW H×List MemPlace}(F:DataW.trod enc prog W 0 (λ_=>true) true fuel 36 [v]=some y):∃xs:List Int,dd W v xs/\dw xs.length:=by obtain ⟨xs,d,_,z⟩:=ajb (P:=d7) (G:=λ_=>True) (n:=1) underlying36 k3 (by decide) (λb o fuel O y E J=>by obtain ⟨k,I,_⟩:=DataW.trod_int underlying3 J;subst I;have:=(ade E).2 0 (by decide);exact⟨k,this,trivial⟩) F;exact⟨xs,d,z⟩
theorem ap4{v:Value}{fuel:Nat}{y:DataW H×List MemPlace}(hf:DataW.trod enc prog W 0 (λ_=>true) true fuel 57 [v]=some y):∃xs:List Ac,oc W v xs/\dw xs.length:=by
 obtain⟨xs,h1,_,h2⟩:=ajb (P:=aqd) (G:=λ_=>True) (n:=4) underlying57 k54 (by decide) (λb o fuel cs y hc ht=>by
  obtain⟨ad,I⟩:=ade hc
  obtain⟨xs,m,_,_,al,ak,J⟩:=DataW.trod_struct underlying92 ht
  match cs,ad with
  | [d,z,E,F],_ =>
   match xs,ak with
   | [x0,x1,x2,x3],_ =>
    have O:DataW.trod enc prog W 0 (λ_=>true) true m 3 (([d,z,E,F].drop 0).take (prog.cellsOf 3))=some x0:=J 0 _ rfl
    have g1:DataW.trod enc prog W 0 (λ_=>true) true m 3 (([d,z,E,F].drop 1).take (prog.cellsOf 3))=some x1:=J 1 _ rfl
    have g2:DataW.trod enc prog W 0 (λ_=>true) true m 3 (([d,z,E,F].drop 2).take (prog.cellsOf 3))=some x2:=J 2 _ rfl
    have U:DataW.trod enc prog W 0 (λ_=>true) true m 9 (([d,z,E,F].drop 3).take (prog.cellsOf 9))=some x3:=J 3 _ rfl
    rw[k3]at O g1 g2
    rw[k9]at U
    obtain⟨k,V,_⟩:=DataW.trod_int underlying3 (show DataW.trod enc prog W 0 (λ_=>true) true m 3 [d]=some x0 from O)
    obtain⟨n,Y,_⟩:=DataW.trod_int underlying3 (show DataW.trod enc prog W 0 (λ_=>true) true m 3 [z]=some x1 from g1)
    obtain⟨q,Z,_⟩:=DataW.trod_int underlying3 (show DataW.trod enc prog W 0 (λ_=>true) true m 3 [E]=some x2 from g2)
    obtain⟨s,hs,_⟩:=DataW.trod_string underlying9 (show DataW.trod enc prog W 0 (λ_=>true) true m 9 [F]=some x3 from U)
    simp only[List.cons.injEq,and_true]at V Y Z hs
    subst V;subst Y;subst Z;subst hs
    exact⟨⟨k,n,q,s⟩,⟨I 0 (by decide),I 1 (by decide),I 2 (by decide),I 3 (by decide)⟩,trivial⟩) hf
 exact⟨xs,h1,h2⟩
theorem ba1{v:Value}{fuel:Nat}{y:DataW H×List MemPlace}(hf:DataW.trod enc prog W 0 (λ_=>true) true fuel 22 [v]=some y):∃xs:List St,te W v xs/\(∀(i:Nat)(x:St),xs[i]?=some x->ap7 x)/\dw xs.length:=by
 exact ajb (P:=a6f) (G:=ap7) (n:=5) underlying22 k38 (by decide) (λb o fuel cs y hc ht=>by
  obtain⟨ad,J⟩:=ade hc
  obtain⟨xs,m,_,_,al,ak,O⟩:=DataW.trod_struct underlying59 ht
  match cs,ad with
  | [F,I,d,z,E],_ =>
   match xs,ak with
   | [x0,x1,x2,x3,x4],_ =>
    have U:DataW.trod enc prog W 0 (λ_=>true) true m 3 (([F,I,d,z,E].drop 0).take (prog.cellsOf 3))=some x0:=O 0 _ rfl
    have g1:DataW.trod enc prog W 0 (λ_=>true) true m 3 (([F,I,d,z,E].drop 1).take (prog.cellsOf 3))=some x1:=O 1 _ rfl
    have g2:DataW.trod enc prog W 0 (λ_=>true) true m 36 (([F,I,d,z,E].drop 2).take (prog.cellsOf 36))=some x2:=O 2 _ rfl
    have V:DataW.trod enc prog W 0 (λ_=>true) true m 57 (([F,I,d,z,E].drop 3).take (prog.cellsOf 57))=some x3:=O 3 _ rfl
    have Y:DataW.trod enc prog W 0 (λ_=>true) true m 57 (([F,I,d,z,E].drop 4).take (prog.cellsOf 57))=some x4:=O 4 _ rfl
    rw[k3]at U g1
    rw[k29]at g2
    rw[k36]at V Y
    obtain⟨k,Z,_⟩:=DataW.trod_int underlying3 (show DataW.trod enc prog W 0 (λ_=>true) true m 3 [F]=some x0 from U)
    obtain⟨p,hp,_⟩:=DataW.trod_int underlying3 (show DataW.trod enc prog W 0 (λ_=>true) true m 3 [I]=some x1 from g1)
    obtain⟨li,i1,i2⟩:=axp (show DataW.trod enc prog W 0 (λ_=>true) true m 36 [d]=some x2 from g2)
    obtain⟨le,e1,e2⟩:=ap4 (show DataW.trod enc prog W 0 (λ_=>true) true m 57 [z]=some x3 from V)
    obtain⟨lx,q1,q2⟩:=ap4 (show DataW.trod enc prog W 0 (λ_=>true) true m 57 [E]=some x4 from Y)
    simp only[List.cons.injEq,and_true]at Z hp
    subst Z;subst hp
    exact⟨⟨k,p,li,le,lx⟩,⟨d,z,E,⟨J 0 (by decide),J 1 (by decide),J 2 (by decide),J 3 (by decide),J 4 (by decide)⟩,i1,e1,q1⟩,i2,e2,q2⟩) hf
theorem baz{v:Value}{fuel:Nat}{y:DataW H×List MemPlace}(hf:DataW.trod enc prog W 0 (λ_=>true) true fuel 23 [v]=some y):∃xs:List Tr,yx W v xs/\(∀(i:Nat)(x:Tr),xs[i]?=some x->ajz x)/\dw xs.length:=by
 exact ajb (P:=a6c) (G:=ajz) (n:=6) underlying23 k43 (by decide) (λb o fuel cs y hc ht=>by
  obtain⟨ad,O⟩:=ade hc
  obtain⟨xs,m,_,_,al,ak,U⟩:=DataW.trod_struct underlying62 ht
  match cs,ad with
  | [E,F,I,d,J,z],_ =>
   match xs,ak with
   | [x0,x1,x2,x3,x4,x5],_ =>
    have V:DataW.trod enc prog W 0 (λ_=>true) true m 3 (([E,F,I,d,J,z].drop 0).take (prog.cellsOf 3))=some x0:=U 0 _ rfl
    have g1:DataW.trod enc prog W 0 (λ_=>true) true m 3 (([E,F,I,d,J,z].drop 1).take (prog.cellsOf 3))=some x1:=U 1 _ rfl
    have g2:DataW.trod enc prog W 0 (λ_=>true) true m 9 (([E,F,I,d,J,z].drop 2).take (prog.cellsOf 9))=some x2:=U 2 _ rfl
    have Y:DataW.trod enc prog W 0 (λ_=>true) true m 36 (([E,F,I,d,J,z].drop 3).take (prog.cellsOf 36))=some x3:=U 3 _ rfl
    have Z:DataW.trod enc prog W 0 (λ_=>true) true m 4 (([E,F,I,d,J,z].drop 4).take (prog.cellsOf 4))=some x4:=U 4 _ rfl
    have g5:DataW.trod enc prog W 0 (λ_=>true) true m 57 (([E,F,I,d,J,z].drop 5).take (prog.cellsOf 57))=some x5:=U 5 _ rfl
    rw[k3]at V g1
    rw[k9]at g2
    rw[k29]at Y
    rw[k4]at Z
    rw[k36]at g5
    obtain⟨k,hk,_⟩:=DataW.trod_int underlying3 (show DataW.trod enc prog W 0 (λ_=>true) true m 3 [E]=some x0 from V)
    obtain⟨p,hp,_⟩:=DataW.trod_int underlying3 (show DataW.trod enc prog W 0 (λ_=>true) true m 3 [F]=some x1 from g1)
    obtain⟨s,hs,_⟩:=DataW.trod_string underlying9 (show DataW.trod enc prog W 0 (λ_=>true) true m 9 [I]=some x2 from g2)
    obtain⟨li,i1,i2⟩:=axp (show DataW.trod enc prog W 0 (λ_=>true) true m 36 [d]=some x3 from Y)
    obtain⟨q,hq,_⟩:=DataW.trod_bool underlying4 (show DataW.trod enc prog W 0 (λ_=>true) true m 4 [J]=some x4 from Z)
    obtain⟨le,e1,e2⟩:=ap4 (show DataW.trod enc prog W 0 (λ_=>true) true m 57 [z]=some x5 from g5)
    simp only[List.cons.injEq,and_true]at hk hp hs hq
    subst hk;subst hp;subst hs;subst hq
    exact⟨⟨k,p,s,li,q,le⟩,⟨d,z,⟨O 0 (by decide),O 1 (by decide),O 2 (by decide),O 3 (by decide),O 4 (by decide),O 5 (by decide)⟩,i1,e1⟩,i2,e2⟩) hf
theorem apw{base:Nat}{v:Value}{d:DataW H}{I:List MemPlace}(F:Value.okWide prog W .any base 25 v)(h:DataW.Trod enc prog W 0 (λ_=>true) true 25 v d I) :
 ∃(vs vt:Value)(C:Ch),v=.agg #[ι C.vars,vs,vt]/\d8 W vs vt C/\ap8 C:=by
 obtain⟨v0,v1,v2,y0,y1,y2,n,rfl,_,_,E,g1,g2⟩:=Go.Joins.open_agg3 underlying25 (by kernel_rfl) k25 F h;obtain⟨k,z,_⟩:=DataW.trod_int underlying3 E;obtain⟨V,J,O,U⟩:=ba1 g1;obtain⟨Z,t1,t2,Y⟩:=baz g2;simp only[List.cons.injEq,and_true]at z;subst z;refine⟨v1,v2,⟨k,V,Z⟩,rfl,⟨J,t1⟩,U,Y,λi y=>O i _ ?_,λi y=>t2 i _ ?_⟩
 . simp only at y ⊢;simp[List.getD,ae y]
 . simp only at y ⊢;simp[List.getD,ae y]
end
section
variable {P:Program} {ops:Array Oper} {Q:Exit→Act→World→Prop} {md:Region.Mode} {S:World→Prop} {D:Nat→Bool}
def s8(P:Program)(md:Region.Mode)(ops:Array Oper)(Q:Exit->Act->ω->Prop)(S:ω->Prop)(D:Nat->Bool):Nat->Array Bool->Act->ω->Prop
 | 0,d,a,w=>Region.ready md ops d=[]/\Q .normal a w
 | E+1,d,a,w =>
  (Region.ready md ops d=[]->Q .normal a w)/\
  ∀i∈Region.ready md ops d,wpOp P ops Q i (λz y=>(D i=false->S w->S y)/\s8 P md ops Q S D E (d.setIfInBounds i true) z y) a w
theorem att:∀(fuel:Nat)(d:Array Bool)(a:Act)(w:ω),s8 P md ops Q S D fuel d a w->wpAny P md ops Q fuel d a w
 | 0,_,_,_,h=>h
 | fuel+1,_,_,_,h=>⟨h.1,λi E=>wpOp_mono (λy F z=>att fuel _ y F z.2) (h.2 i E)⟩
def a4c(md:Region.Mode)(ops:Array Oper)(D:Nat->Bool)(i:Nat):Bool :=
 (List.range ops.size).all λj=>!D j||((ops[j]?).map (·.after.any λe=>Region.binds md e&&e.on==i)).getD true
theorem avg{i:Nat}(h:a4c md ops D i=true)(j:Nat)(z:Oper)(y:ops[j]?=some z)(F:D j=true):∃e∈z.after,Region.binds md e=true/\e.on=i:=by have I:=(ii.1 y).1;have:=nr.1 h j (dk.2 I);rw[F,y]at this;simp only[Bool.not_true,Bool.false_or,Option.map_some,Option.getD_some,Array.any_eq_true',bj,beq_iff_eq]at this;obtain⟨e,E,d⟩:=this;exact⟨e,E,d.1,d.2⟩
theorem alz{p:Prop}{i:Nat}{I:Oper}{v:Value}(hi:ops[i]?=some I)(a0:∀(j:Nat)(o:Oper) cs b,ops[j]?=some o->o.op≠ .select cs b)
 (hQ:∀c a w,Q (.panic c) (a.put I.dst v) w->Q (.panic c) a w)
 (hD:p->∀j d,ops[j]?=some d->D j=true->∃e∈d.after,Region.binds md e=true/\e.on=i) :
 ∀(fuel:Nat)(y:Array Bool)(a:Act)(w:ω),
  (∀j d,ops[j]?=some d->j≠i->y.getD j true=false->(∀e∈d.after,Region.binds md e=true->e.on≠i)->I.apart ops d=true)->
  i∈Region.ready md ops y->YieldsIf P ops (λw=>p->S w) I v a->(p->S w)->
  s8 P md ops Q S D fuel (y.setIfInBounds i true) (a.put I.dst v) w->s8 P md ops Q S D (fuel+1) y a w:=by
 intro fuel;induction fuel with
 | zero =>
  intro y a w _ F Y O H;refine⟨λh=>(by rw[h]at F;cases F),λj U=>?_⟩;by_cases z:j=i
  . subst z;exact Y.wpOp hi O ⟨λ_ h=>h,H⟩
  . have:=ready_mono U z;rw[H.1]at this;cases this
 | succ fuel ih =>
  intro y a w ak F Y O H;refine⟨λh=>(by rw[h]at F;cases F),λj U=>?_⟩;by_cases z:j=i
  . subst z;exact Y.wpOp hi O ⟨λ_ h=>h,H⟩
  . have h1:=H.2 j (ready_mono U z);obtain⟨am,d,V,a3⟩:=mem_ready.1 U;have a1:=(mem_ready.1 F).1;have ax:∀e∈d.after,Region.binds md e=true->e.on≠i:=λe he hb ad=>by
     have E:=a3 e he hb;rw[ad]at E;rcases et i y.size with Z | Z
     . simp[Z]at a1 E;rw[a1]at E;cases E
     . simp[Array.getElem?_eq_none Z]at E
    have E:=wpOp_putIf V (ak j d V z am ax) (λcs b=>a0 i I cs b hi) (λcs b=>a0 j d cs b V) hQ Y h1;have a4:∀k ok,ops[k]?=some ok->k≠i->(y.setIfInBounds j true).getD k true=false->
     (∀e∈ok.after,Region.binds md e=true->e.on≠i)->I.apart ops ok=true:=λk ok hk a5 av a9=>by
     refine ak k ok hk a5 ?_ a9
     by_cases al:j=k
     . subst al;exact am
     . rw[getD_set_ne true al]at av;exact av
    refine wpOp_mono (λa' w' J=>⟨J.2.1,ih (y.setIfInBounds j true) a' w' a4 (ready_mono F (j1 z)) J.1 (λhp=>?_) ?_⟩) E
    . refine J.2.1 ?_ (O hp);cases a2:D j with
      | false=>rfl
      | true =>obtain ⟨e,he,hb,ad⟩:=hD hp j d V a2;exact absurd ad (ax e he hb)
    . rw[Array.setIfInBounds_comm _ _ z];exact J.2.2
theorem ln{i:Nat}{y:Oper}{v:Value}{fuel:Nat}{d:Array Bool}{a:Act}{w:ω}(z:ops[i]?=some y)
 (J:Region.noSelect ops=true)(F:Region.free md ops d i=true)(I:(Region.ready md ops d).contains i=true)
 (E:∀c a w,Q (.panic c) (a.put y.dst v) w->Q (.panic c) a w)(O:Yields P ops y v a)
 (h:s8 P md ops Q S D fuel (d.setIfInBounds i true) (a.put y.dst v) w):s8 P md ops Q S D (fuel+1) d a w :=
 alz (p:=False) z (Region.noSelect_spec J) E (λh=>h.elim) fuel d a w (Region.free_spec z F) (by simpa using I) O.yieldsIf (λh=>h.elim) h
theorem aaw{i:Nat}{y:Oper}{v:Value}{fuel:Nat}{d:Array Bool}{a:Act}{w:ω}(z:ops[i]?=some y)
 (U:Region.noSelect ops=true)(I:Region.free md ops d i=true)(O:(Region.ready md ops d).contains i=true)(J:a4c md ops D i=true)
 (E:∀c a w,Q (.panic c) (a.put y.dst v) w->Q (.panic c) a w)(Y:YieldsIf P ops S y v a)(F:S w)
 (h:s8 P md ops Q S D fuel (d.setIfInBounds i true) (a.put y.dst v) w):s8 P md ops Q S D (fuel+1) d a w :=
 alz (p:=True) z (Region.noSelect_spec U) E (λ_=>avg J) fuel d a w (Region.free_spec z I) (by simpa using O)
  (Y.imp (λh=>⟨h.1,λw V=>h.2 w (V trivial)⟩) id) (λ_=>F) h
theorem a50{i:Nat}{o:Oper}{fuel:Nat}{y:Array Bool}{a:Act}{w:ω}(U:ops[i]?=some o)(O:o.guard=none)(F:Region.ready md ops y=[i])
 (h:∀K:Act->ω->Prop,Hid (∀a' d,(D i=false->S w->S d)->s8 P md ops Q S D fuel (y.setIfInBounds i true) a' d->K a' d)->o.wp P a w K Q):s8 P md ops Q S D (fuel+1) y a w:=by
 refine⟨λz=>(by rw[F]at z;cases z),λj E=>?_⟩;rw[F,cf]at E;subst E;unfold wpOp;rw[U];simp only[Region.wanted,O,if_true];exact .inl (h _ (aa λa' d I J=>⟨I,J⟩))
theorem ng{i:Nat}{o:Oper}{fuel:Nat}{y:Array Bool}{a:Act}{w:ω}(U:ops[i]?=some o)(O:Region.wanted o (yielded ops a.tmps)=true)(F:Region.ready md ops y=[i])
 (h:∀K:Act->ω->Prop,Hid (∀a' d,(D i=false->S w->S d)->s8 P md ops Q S D fuel (y.setIfInBounds i true) a' d->K a' d)->o.wp P a w K Q):s8 P md ops Q S D (fuel+1) y a w:=by
 refine⟨λz=>(by rw[F]at z;cases z),λj E=>?_⟩;rw[F,cf]at E;subst E;unfold wpOp;rw[U];simp only[O,if_true];exact .inl (h _ (aa λa' d I J=>⟨I,J⟩))
theorem a07{fuel:Nat}{y:Array Bool}{a:Act}{w:ω}(d:Region.ready md ops y=[])(h:Q .normal a w):s8 P md ops Q S D fuel y a w:=by
 cases fuel with
 | zero=>exact ⟨d,h⟩
 | succ n=>exact ⟨λ_=>h,by rw[d];simp⟩
theorem awi(S:ω->Prop)(D:Nat->Bool){id:Nat}{a:Act}{w:ω}(d:P.follows .mixedOrders=true)
 (h:s8 P .any ops Q S D ops.size (Array.replicate ops.size false) a w.drew):(Code.region id ops true).wp P Q a w :=
 wp_region_any d (att _ _ _ _ h)
end
theorem sx:(∀{α:Type}(a:List α)(i:Nat)(v:α),a.toArray.setIfInBounds i v=(a.set i v).toArray)/\(∀{α:Type}(x v:α)(l:List α),(x::l).set 0 v=v::l)/\(∀{α:Type}(x v:α)(l:List α)(i:Nat),(x::l).set (i+1) v=x::l.set i v)/\
 (∀{α:Type}(a:List α)(i:Nat)(h:i<a.toArray.size),a.toArray[i]=a[i]'h)/\(∀{α:Type}(x:α)(l:List α)(h:0<(x::l).length),(x::l)[0]=x)/\(∀{α:Type}(x:α)(l:List α)(i:Nat)(h:i+1<(x::l).length),(x::l)[i+1]=l[i]'(Nat.lt_of_succ_lt_succ h)) :=
 ⟨λa i v=>cy ..,λx v l=>rfl,λx v l i=>rfl,λa i h=>rfl,λx l h=>rfl,λx l i h=>rfl⟩
section
variable {P:Program} {ops:Array Oper} {Q:Exit→Act→World→Prop} {md:Region.Mode} {S:World→Prop} {D:Nat→Bool}
theorem af(i:Nat)(v:Value){y:Oper}{fuel:Nat}{d:Array Bool}{a:Act}{w:ω}
 (h:s8 P md ops Q S D fuel (d.setIfInBounds i true) (a.put y.dst v) w)(F:ops[i]?=some y:=by exact rfl)
 (J:Region.noSelect ops=true:=by kernel_rfl)(E:Region.free md ops d i=true:=by kernel_rfl)(I:(Region.ready md ops d).contains i=true:=by kernel_rfl)
 (z:∀c a w,Q (.panic c) (a.put y.dst v) w->Q (.panic c) a w:=by exact λ_ _ _ h=>h)(O:Yields P ops y v a:=by exact Or.inl ⟨by kernel_rfl,λw=>by (try simp only[Act.put,sx]);go_simp⟩):s8 P md ops Q S D (fuel+1) d a w :=
 ln F J E I z O h
theorem a7(i:Nat)(v:Value){y:Oper}{fuel:Nat}{d:Array Bool}{a:Act}{w:ω}(z:S w)
 (h:s8 P md ops Q S D fuel (d.setIfInBounds i true) (a.put y.dst v) w)(I:ops[i]?=some y:=by exact rfl)
 (U:Region.noSelect ops=true:=by kernel_rfl)(F:Region.free md ops d i=true:=by kernel_rfl)(O:(Region.ready md ops d).contains i=true:=by kernel_rfl)(J:a4c md ops D i=true:=by kernel_rfl)
 (E:∀c a w,Q (.panic c) (a.put y.dst v) w->Q (.panic c) a w:=by exact λ_ _ _ h=>h)(V:YieldsIf P ops S y v a:=by exact Or.inl ⟨by kernel_rfl,λw z=>by (try simp only at z);(try simp only[Act.put,sx]);go_simp⟩):s8 P md ops Q S D (fuel+1) d a w :=
 aaw I U F O J E V z h
theorem a8(i:Nat){o:Oper}{fuel:Nat}{d:Array Bool}{a:Act}{w:ω}
 (h:∀K:Act->ω->Prop,Hid (∀a' y,(D i=false->S w->S y)->s8 P md ops Q S D fuel (d.setIfInBounds i true) a' y->K a' y)->o.wp P a w K Q)(E:ops[i]?=some o:=by exact rfl)(z:o.guard=none:=by exact rfl)(F:Region.ready md ops d=[i]:=by kernel_rfl):s8 P md ops Q S D (fuel+1) d a w :=
 a50 E z F h
theorem ce{fuel:Nat}{d:Array Bool}{a:Act}{w:ω}(h:Q .normal a w)(y:Region.ready md ops d=[]:=by kernel_rfl):s8 P md ops Q S D fuel d a w:=a07 y h
theorem cr(S:ω->Prop)(L:List Nat){id:Nat}{a:Act}{w:ω}
 (h:s8 P .any ops Q S (λi=>L.contains i) ops.size (Array.replicate ops.size false) a w.drew)(d:P.follows .mixedOrders=true:=by kernel_rfl):(Code.region id ops true).wp P Q a w:=awi S _ d h
end
structure j0 (g:Nat) (v:Value) (w w':World) (v':Value):Prop where
 os:w'.os=w.os
 tape:w'.tape=w.tape
 output:w'.output=w.output
 size:w.heap.size<=w'.heap.size
 block:∀i,i<w.heap.size->i≠g->v.ownBlock≠some i->w'.heap[i]?=w.heap[i]?
 row:v'.ownBlock=v.ownBlock\/∀j,v'.ownBlock=some j->w.heap.size<=j
theorem j0.refl(g:Nat)(v:Value)(w:ω):j0 g v w w v:=⟨rfl,rfl,rfl,ai _,λ_ _ _ _=>rfl,.inl rfl⟩
theorem j0.trans{g:Nat}{v J v2:Value}{w O U:ω}(h:j0 g v w O J)(k:j0 g J O U v2):j0 g v w U v2:=by
 refine⟨k.os.trans h.os,k.tape.trans h.tape,k.output.trans h.output,a6 h.size k.size,λi F E I=>?_,?_⟩
 . refine(k.block i (c8 F h.size) E ?_).trans (h.block i F E I);rcases h.row with y | y
   . rw[y];exact I
   . exact λd=>absurd (y i d) (by omega)
 . rcases k.row with z | z
   . rw[z];exact h.row
   . exact .inr λj d=>a6 h.size (z j d)
theorem j0.of_below{g:Nat}{w d:ω}(v:Value)(h:κ w d):j0 g v w d v:=⟨h.os,h.tape,h.output,h.size,λi y _ _=>h.block i y,.inl rfl⟩
theorem j0.drewN{g:Nat}{v v':Value}{w d:ω}(h:j0 g v w d v')(n:Nat):j0 g v w (d.drewN n) v':=⟨h.os,h.tape,h.output,h.size,h.block,h.row⟩
theorem j0.alloc{g:Nat}{v v':Value}{w d:ω}(h:j0 g v w d v')(o:Obj):j0 g v w (d.alloc o) v':=h.trans (j0.of_below v' ((ag _ _).alloc (ai _) o))
theorem j0.set{g:Nat}{v v':Value}{w d:ω}(h:j0 g v w d v')(i:Nat)(u:Value):j0 g v w (d.setCell (δ g i) u) v' :=
 ⟨h.os,h.tape,h.output,by simpa using h.size,λj z y E=>(cz d (δ g i) u j y).trans (h.block j z y E),h.row⟩
theorem j0.grown{g:Nat}{v E v2:Value}{w F I:ω}(h:j0 g v w F E)(d:F.grownBy I E.ownBlock)(y:v2.ownBlock=E.ownBlock\/v2.ownBlock=some F.heap.size):j0 g v w I v2:=by
 refine h.trans ⟨d.os,d.tape,d.output,d.size,λi O _ U=>d.block i O (λJ=>U J.symm),?_⟩;rcases y with y | y
 . exact .inl y
 . refine .inr λj z=>?_;rw[y]at z;injection z with z;omega
theorem j0.below{g e s n B:Nat}{xs:List Value}{v v':Value}{w d:ω}(h:j0 g v w d v')(z:w.ownsRow B e s v n xs)(E:g<B)(F:g<=w.heap.size):Below g w d :=
 ⟨h.os,h.tape,h.output,h.size,λi I=>h.block i (by omega) (by omega) (λy=>by have:=(z.lt i y).1;omega)⟩
theorem j0.after{g:Nat}{v v':Value}{w y d:ω}(z:κ w y)(h:j0 g v y d v'):j0 g v w d v':=(j0.of_below v z).trans h
def lg(g:Nat)(w:ω)(v:Value)(ts:List Tk):Prop :=
 ∃(A:Option Addr)(d:Nat),v=.slice A ts.length d/\ts.length<=d/\∀(i:Nat)(t:Tk),ts[i]?=some t->∃b o:Nat,A=some (δ b o)/\b<g/\
  w.cell? (δ b (o+i*3))=some (ι t.1)/\w.cell? (δ b (o+i*3+1))=some (ι t.2.1)/\w.cell? (δ b (o+i*3+2))=some (ι t.2.2)
theorem lg.of{w:ω}{v:Value}{ts:List Tk}(h:lw w v ts):lg w.heap.size w v ts:=h
theorem lg.below{g:Nat}{w z:ω}{v:Value}{ts:List Tk}(h:lg g w v ts)(y:Below g w z):lg g z v ts:=by obtain ⟨A,E,Z,U,V⟩:=h;refine⟨A,E,Z,U,λi t Y=>?_⟩;obtain⟨b,o,O,d,F,I,J⟩:=V i t Y;exact⟨b,o,O,d,(y.cell (p:=(δ b _)) d).trans F,(y.cell (p:=(δ b _)) d).trans I,(y.cell (p:=(δ b _)) d).trans J⟩
structure RSt (g:Nat) (vin:Value) (w:World) (k:Nat) (v:Value) (o:List Tk):Prop where
 blk:cg w g 163 #[vin,ι k,v]
 own:w.ownsRow (g+1) 206 3 v o.length (g9 o)
theorem RSt.kept{g k:Nat}{y v:Value}{w z:ω}{o:List Tk}(h:RSt g y w k v o)(d:κ w z):RSt g y z k v o:=⟨h.blk.below d h.blk.lt,bl h.own d⟩
theorem RSt.drewN{g k:Nat}{d v:Value}{w:ω}{o:List Tk}(h:RSt g d w k v o)(n:Nat):RSt g d (w.drewN n) k v o:=⟨h.blk.drewN n,h.own⟩
theorem agh{w:ω}{base:Nat}{e:TypeId}{size:Nat}{v:Value}{n:Nat}{xs:List Value}{g:Nat}(h:w.ownsRow base e size v n xs)(i:Nat)(u:Value)(U:g<base):(w.setCell (δ g i) u).ownsRow base e size v n xs:=by
 refine⟨h.1,?_⟩;rcases h.2 with E | ⟨d,y,z,O,F,I,J⟩
 . exact .inl E
 . exact .inr ⟨d,y,z,O,F,(cz w (δ g i) u d (by simp;omega)).trans I,J⟩
theorem RSt.at_{g k:Nat}{y v:Value}{w:ω}{o:List Tk}(h:RSt g y w k v o)(d:Nat):RSt g y (w.setCell (δ g 1) (ι d)) d v o :=
 ⟨h.blk.ca 1 _,agh h.own _ _ (nl g)⟩
theorem RSt.below{g k:Nat}{z v:Value}{w:ω}{o:List Tk}(h:RSt g z w k v o){v':Value}{d:ω}(y:j0 g v w d v'):Below g w d:=y.below h.own (nl g) (su h.blk.lt)
theorem RSt.lt{g k:Nat}{d v:Value}{w:ω}{o:List Tk}(h:RSt g d w k v o):g<w.heap.size:=h.blk.lt
def l4(g:Nat)(z:Value)(R:wv)(v:Value)(w:ω)(e:Ending)(y:ω):Prop :=
 match R with
 | .ok k o=>e=.returned (.bool true)/\∃d,j0 g v w y d/\RSt g z y k d o
 | .bad k=>e=.returned (.bool false)/\∃d o,j0 g v w y d/\RSt g z y k d o
def nj(ts:List Tk)(g:Nat)(y:Value)(n z F:Nat):Prop :=
 ∀(k:Nat)(d:List Tk)(R:wv)(v:Value)(w:ω),rd ts n z k d=some R->k<=ts.length->d.length<=k->lg g w y ts->RSt g y w k v d->
  Calls prog F #[φ g 0] w (l4 g y R v w)
theorem ahw(w:ω)(a b:Nat):(w.drewN a).drewN b=w.drewN (a+b):=by simp[World.drewN,Nat.add_assoc]
theorem a4d(g:Nat)(y v:Value)(ts:List Tk)(w:ω)(A:Option Addr)(cap:Nat)(z:y=.slice A ts.length cap)(d:cg w g 163 #[y,ι ts.length,v])(U:ts.length<=1000000) :
 Calls prog 268 #[φ g 0] w λe E=>e=.returned (ι 0)/\∃n,E=w.drewN n:=by
 subst z;obtain⟨⟨F,I,J⟩,_⟩:=d.ax;have O:decide (ts.length=ts.length)=true:=by simp
 clear d;go_enter func268,ntmps268;go_wp2;go_quiet (fail);go_wp2;go_ret;exact⟨rfl,_,rfl⟩
theorem a0a(g k b o cap:Nat)(v:Value)(ts:List Tk)(x:Int)(w:ω)(d:cg w g 163 #[.slice (some (δ b o)) ts.length cap,ι k,v])(J:k<ts.length)(U:ts.length<=1000000)(Z:w.cell? (δ b (o+k*3))=some (ι x)) :
 Calls prog 268 #[φ g 0] w λe y=>e=.returned (ι x)/\∃n,y=w.drewN n:=by
 obtain⟨⟨z,E,F⟩,_⟩:=d.ax;have V:((k:Int)==(ts.length:Int))=false:=by simp;omega
 have Y:(k==ts.length)=false:=by simp;omega
 have I:decide (k=ts.length)=false:=by simp;omega
 have O:(k:Int)<(ts.length:Int):=by omega
 clear d;go_enter func268,ntmps268;go_wp2;go_quiet (fail);go_wp2;go_quiet (fail);go_wp2;go_ret;exact⟨rfl,_,ahw _ _ _⟩
theorem m8(ts:List Tk)(g k:Nat)(y v:Value)(w:ω)(o:List Tk)(O:lg g w y ts)(E:RSt g y w k v o)(hk:k<=ts.length)(F:ts.length<=1000000) :
 Calls prog 268 #[φ g 0] w λe V=>e=.returned (ι (jt ts k))/\∃n,V=w.drewN n:=by
 obtain⟨A,z,I,hc,U⟩:=O;rcases et k ts.length with d | ad
 . obtain⟨b,o,rfl,hb,J,Y,Z⟩:=U k ts[k] (ae d);rw[aht (ae d)];subst I;exact a0a g k b o z v ts _ w E.blk d F J
 . obtain rfl:k=ts.length:=(by omega);rw[axk];exact a4d g y v ts w A z I E.blk F
def pg(ts:List Tk)(d k:Nat):Int:=(ts[k]?.map λt=>t.2.2).getD d
theorem awb(g:Nat)(s:ByteArray)(y v:Value)(ts:List Tk)(w:ω)(A:Option Addr)(cap:Nat)(z:y=.slice A ts.length cap)(d:cg w g 163 #[y,ι ts.length,v])(U:ts.length<=1000000)(V:s.size<=1000000) :
 Calls prog 127 #[φ g 0,.string s] w λe E=>e=.returned (ι s.size)/\∃n,E=w.drewN n:=by
 subst z;obtain⟨⟨F,I,J⟩,_⟩:=d.ax;have O:decide (ts.length=ts.length)=true:=by simp
 clear d;go_enter func127,ntmps127;go_wp2;go_quiet (fail);go_wp2;go_ret;exact⟨rfl,_,rfl⟩
theorem ato(g k b o cap:Nat)(s:ByteArray)(v:Value)(ts:List Tk)(x:Int)(w:ω)(d:cg w g 163 #[.slice (some (δ b o)) ts.length cap,ι k,v])(J:k<ts.length)(U:ts.length<=1000000)(Z:s.size<=1000000)(hx:w.cell? (δ b (o+k*3+2))=some (ι x)) :
 Calls prog 127 #[φ g 0,.string s] w λe y=>e=.returned (ι x)/\∃n,y=w.drewN n:=by
 obtain⟨⟨z,E,F⟩,_⟩:=d.ax;have V:((k:Int)==(ts.length:Int))=false:=by simp;omega
 have Y:(k==ts.length)=false:=by simp;omega
 have I:decide (k=ts.length)=false:=by simp;omega
 have O:(k:Int)<(ts.length:Int):=by omega
 clear d;go_enter func127,ntmps127;go_wp2;go_quiet (fail);go_wp2;go_quiet (fail);go_wp2;go_ret;exact⟨rfl,_,ahw _ _ _⟩
theorem alt(ts:List Tk)(g k:Nat)(s:ByteArray)(y v:Value)(w:ω)(o:List Tk)(U:lg g w y ts)(E:RSt g y w k v o)(hk:k<=ts.length)(F:ts.length<=1000000)(I:s.size<=1000000) :
 Calls prog 127 #[φ g 0,.string s] w λe Y=>e=.returned (ι (pg ts s.size k))/\∃n,Y=w.drewN n:=by
 obtain⟨A,z,J,hc,V⟩:=U;rcases et k ts.length with d | ad
 . obtain⟨b,o,rfl,hb,Z,c1,O⟩:=V k ts[k] (ae d);have h:pg ts s.size k=ts[k].2.2:=(by unfold pg;rw[ae d];rfl);rw[h];subst J;exact ato g k b o z s v ts _ w E.blk d F I O
 . obtain rfl:k=ts.length:=(by omega);have h:pg ts s.size ts.length=s.size:=(by unfold pg;rw[cn (ai _)];rfl);rw[h];exact awb g s y v ts w A z J E.blk F I
def yy(w:ω)(b:Nat)(xs:List Int):Prop:=∀(i:Nat)(x:Int),xs[i]?=some x->w.cell? (δ b i)=some (ι x)
theorem a0c(xs:List Int)(b cap:Nat)(x:Int)(w:ω)(U:yy w b xs)(hl:xs.length<=1000000)(J:x∈xs) :
 Calls prog 187 #[.slice (some (δ b 0)) xs.length cap,ι x] w λe w'=>(∃k:Nat,e=.returned (ι k))/\w=w':=by
 have Z:=aa U;have Y:=aa J;clear U J;go_enter func187,ntmps187;go_wp2;go_loop [8] (λi=>∃k:Nat,k<=xs.length/\i=ι k/\Hid (∀j y,j<k->xs[j]?=some y->y≠x)) (λi=>xs.length-(intOf i).toNat)
 case atStart=>exact ⟨0,ar _,rfl,aa (λj y h=>by omega)⟩
 case round =>
  obtain⟨k,hk,rfl,O⟩:=hrel;by_cases I:k<xs.length
  . have c:=Z.out k xs[k] (ae I);have V:=aa (ae I);generalize xs[k]=y at *;by_cases E:x=y
    . subst E;go_wp2;go_ret;exact⟨⟨k,rfl⟩,rfl⟩
    . have ak:(x==y)=false:=(by simpa using E);have HY:=aa E;clear E;go_wp2;go_round
      case rel=>exact ⟨k+1,by omega,by go_num,aa (λj z F d=>by
       by_cases ad:j=k
       . subst ad;rw[V.out]at d;injection d with d;subst d;exact λh=>HY h.symm
       . exact O.out j z (by omega) d)⟩
      case measure=>simp[intOf];omega
  . exfalso;obtain⟨j,F⟩:=jp Y;have:=(bo.1 F).1;exact O.out j x (by omega) F rfl
theorem a4j(xs:List Int)(b cap:Nat)(x:Int)(w:ω)(E:yy w b xs)(V:xs.length<=1000000)(z:x∉xs) :
 Calls prog 187 #[.slice (some (δ b 0)) xs.length cap,ι x] w λe O=>e=.returned (ι (-1))/\w=O:=by
 have J:=aa E;have I:=aa z;clear E z;go_enter func187,ntmps187;go_wp2;go_loop [8] (λi=>∃k:Nat,k<=xs.length/\i=ι k) (λi=>xs.length-(intOf i).toNat)
 case atStart=>exact ⟨0,ar _,rfl⟩
 case round =>
  obtain⟨k,U,rfl⟩:=hrel;by_cases d:k<xs.length
  . have c:=J.out k xs[k] (ae d);have F:x≠xs[k]:=λh=>I (by rw[h];exact bw d);have Y:(x==xs[k])=false:=(by simpa using F);clear F;generalize xs[k]=y at *;go_wp2;go_round
    case rel=>exact ⟨k+1,by omega,by go_num⟩
    case measure=>simp[intOf];omega
  . go_wp2;go_ret;exact⟨rfl,rfl⟩
def ab4(xs:List Int)(x:Int):Bool:=decide (x∈xs)
theorem abo(xs:List Int)(b cap:Nat)(x:Int)(w:ω)(y:yy w b xs)(I:xs.length<=1000000) :
 Calls prog 138 #[.slice (some (δ b 0)) xs.length cap,ι x] w λe F=>e=.returned (.bool (ab4 xs x))/\w=F:=by
 by_cases d:x∈xs
 . have h:ab4 xs x=true:=(by simpa [ab4] using d);rw[h];have z:=aa d;have E:=aa y;clear d y h;go_enter func138,ntmps138;go_wp2_with fail;refine(a0c xs b cap x w E I z).mono ?_;rintro e F⟨⟨k,rfl⟩,rfl⟩;go_wp2;go_ret;exact⟨rfl,rfl⟩
 . have h:ab4 xs x=false:=(by simpa [ab4] using d);rw[h];have z:=aa d;have E:=aa y;clear d y h;go_enter func138,ntmps138;go_wp2_with fail;refine(a4j xs b cap x w E I z).mono ?_;rintro e F⟨rfl,rfl⟩;go_wp2;go_ret;exact⟨rfl,rfl⟩
theorem dx(n a b:Int)(w:ω):Calls prog 84 #[ι n,ι a,ι b] w λe z=>e=.returned (.bool (m9 n a b))/\w=z:=by
 by_cases y:a<=n
 . have d:decide (a<=n)=true:=(by simpa using y);go_enter func84,ntmps84;go_wp2;go_ret;exact⟨az (by unfold m9;rw[d];rfl),rfl⟩
 . have d:decide (a<=n)=false:=(by simpa using y);go_enter func84,ntmps84;go_wp2;go_ret;exact⟨az (by unfold m9;rw[d];rfl),rfl⟩
theorem ei(k:Int)(w:ω):Calls prog 153 #[ι k] w λe d=>e=.returned (.bool (ct k))/\w=d:=by
 by_cases h:k=5
 . subst h;go_enter func153,ntmps153;go_wp2;go_ret;exact⟨rfl,rfl⟩
 . have y:(k==5)=false:=(by simpa using h);go_enter func153,ntmps153;go_wp2;go_ret;exact⟨az (by unfold ct;simp[h];rfl),rfl⟩
theorem ac2(E s:Int)(vs vt:Value)(C:Ch)(w:ω)(I:d8 w vs vt C)(J:dw C.ab.length) :
 Calls prog 154 #[.agg #[ι E,vs,vt],ι s] w λe O=>e=.returned (.bool (c6 C.ab s))/\κ w O:=by
 unfold dw at J;obtain⟨⟨A,F,rfl,Q,_⟩,_⟩:=I;have z:κ w (w.alloc (bu E (.slice A C.ab.length F) vt)):=(ag _ _).alloc (ai _) _;have y:=aa z;clear z;by_cases h:0<=s
 . have d:decide (0<=s)=true:=(by simpa using h);go_enter func154,ntmps154;go_wp2;go_ret;exact⟨az (by unfold c6;rw[d];rfl),y⟩
 . have d:decide (0<=s)=false:=(by simpa using h);go_enter func154,ntmps154;go_wp2;go_ret;exact⟨az (by unfold c6;rw[d];rfl),y⟩
theorem bc{w d:ω}{y:Int}{vs vt:Value}(z:κ (w.alloc (bu y vs vt)) d) :
 d.cell? (δ w.heap.size 0)=some (ι y)/\d.cell? (δ w.heap.size 1)=some vs/\d.cell? (δ w.heap.size 2)=some vt :=
 ((cg.new w 25 #[ι y,vs,vt]).below z (by simp)).ax.1
theorem an0(O s:Int)(vs vt:Value)(C:Ch)(w:ω)(I:d8 w vs vt C)(V:dw C.ab.length) :
 Calls prog 212 #[.agg #[ι O,vs,vt],ι s] w λe Q=>e=.returned (ι (lu C.ab s))/\κ w Q:=by
 have y:=aa (ap w (bu O vs vt));have U:=aa (ac2 O s vs vt C _ (I.below y) V);have HC:=aa I;unfold dw at V;cases h:c6 C.ab s with
 | false =>have F:=aa h;clear h I;go_enter func212,ntmps212;go_wp2_with fail;refine U.mono ?_;rintro e w1⟨rfl,d⟩;have z:=aa (y.trans (d.mono y.size));rw[F.out];clear d;go_wp2;go_ret;exact⟨cw (by unfold lu;rw[ah (by rw[F.out];simp)]),z⟩
 | true =>
  have F:=aa h
  obtain⟨k,rfl,Z⟩:=fq h
  obtain⟨b,o,ak,vi,ve,vx,rfl,al,ad,W,_⟩:=I.st Z
  have Y:=aa W
  clear h I W
  go_enter func212,ntmps212
  go_wp2_with fail
  refine U.mono ?_
  rintro e w1⟨rfl,d⟩
  have z:=aa (y.trans (d.mono y.size))
  obtain⟨x0,x1,x2⟩:=bc d
  obtain⟨c0,c1,c2,c3,c4⟩:=Y.below z ad
  rw[F.out]
  clear d
  cases J:m9 (aq C.ab (k:Int)).par 0 ((k:Int)-1) with
  | true =>
   have E:=aa J
   clear J
   go_wp2_with (go_at_call 84;refine (dx _ _ _ _).mono ?_;rintro e Q⟨rfl,rfl⟩;rw[E.out])
   go_ret
   exact⟨cw (by unfold lu;rw[ao ⟨F.out,E.out⟩]),z⟩
  | false =>
   have E:=aa J
   clear J
   go_wp2_with (go_at_call 84;refine (dx _ _ _ _).mono ?_;rintro e Q⟨rfl,rfl⟩;rw[E.out])
   go_ret
   exact⟨cw (by unfold lu;rw[ah (by rw[E.out];simp)]),z⟩
theorem aj{w d:ω}{o:Obj}(y:κ (w.alloc o) d):κ w d:=(ap w o).trans (y.mono (by simp))
theorem ala(F a b:Int)(vs vt:Value)(C:Ch)(w:ω)(U:d8 w vs vt C)(hl:dw C.ab.length) :
 Calls prog 152 #[.agg #[ι F,vs,vt],ι a,ι b] w λe w'=>e=.returned (.bool (jc C.ab a b))/\κ w w':=by
 have J:=aa (λ(W:ω)(s:Int)(h:κ (w.alloc (bu F vs vt)) W)=>an0 F s vs vt C W (U.below (aj h)) hl);have Q:jc C.ab a b=inF C.ab (a.toNat+1) (lu C.ab a) b:=rfl;have a1:=adf C.ab a;have Z:=zx C.ab a;have am:(lu C.ab a+1).toNat<=a.toNat+1:=by rcases Z with h | h<;>omega
 have al:=aa (λq=>sj C.ab q);generalize jc C.ab a b=R at *;have H0:=aa Q;clear Q U Z;go_enter func152,ntmps152;go_wp2_with fail;refine(J _ a (ag _ _)).mono ?_;rintro e w1⟨rfl,V⟩;have ad:=aa V;generalize lu C.ab a=u at *;clear V;go_wp2_with fail;go_loopw [7] (λp wr=>∃(n:Nat)(q:Int),(q+1).toNat<=n/\p=ι q/\Hid (R=inF C.ab n q b)/\κ (w.alloc (bu F vs vt)) wr) (λp _=>(intOf p+1).toNat)
 case atStart=>exact ⟨a.toNat+1,u,am,rfl,H0,ad⟩
 case round =>
  obtain⟨n,q,hn,rfl,O,I⟩:=hrel;obtain⟨wo,rfl⟩:∃wo:ω,wo=wr:=⟨_,rfl⟩;obtain⟨x0,x1,x2⟩:=bc I;have z:=aa I;clear I;by_cases hq:q<0
  . have d:=O.out;have:inF C.ab n q b=false:=by
     cases n with
     | zero=>rfl
     | succ n=>rw[inF,ao hq]
    rw[this]at d;have E:=aa d;clear d this;go_wp2;go_ret;exact⟨az E.symm,aj z⟩
  . obtain⟨m,rfl⟩:∃m,n=m+1:=⟨n-1,by omega⟩;have d:=O.out;rw[inF,ah hq]at d;have av:0<=q:=(by omega);by_cases y:q=b
    . rw[ao y]at d;have E:=aa d;have ax:(q==b)=true:=(by simpa using y);have a0:=aa y;clear d y;go_wp2;go_ret;exact⟨az E.symm,aj z⟩
    . rw[ah y]at d;have E:=aa d;have ax:(q==b)=false:=(by simpa using y);have a2:=al.out q av;clear d y;go_wp2_with fail;refine(J _ q z).mono ?_;rintro e w2⟨rfl,Y⟩;have ak:=aa (z.trans (Y.mono z.size));generalize lu C.ab q=u2 at *;clear Y;go_wp2;go_roundw
      case rel=>exact ⟨m,u2,by omega,rfl,E,ak⟩
      case measure=>simp[intOf];omega
theorem agi(d s:Int)(vs vt:Value)(C:Ch)(w:ω)(z:d8 w vs vt C)(O:dw C.ab.length) :
 Calls prog 155 #[.agg #[ι d,vs,vt],ι s] w λe Q=>e=.returned (.bool (ma C.ab s))/\κ w Q:=by
 have y:=aa (ap w (bu d vs vt));have J:=aa (ac2 d s vs vt C _ (z.below y) O);clear z;by_cases h:s=0
 . subst h;go_enter func155,ntmps155;go_wp2;go_ret;exact⟨az (by simp[ma]),y⟩
 . have U:(s != 0)=true:=(by simpa using h);have I:=aa h;clear h;go_enter func155,ntmps155;go_wp2_with fail;refine J.mono ?_;rintro e V⟨rfl,E⟩;have F:=aa (aj E);clear E;go_wp2;go_ret;exact⟨az (by simp[ma,I.out]),F⟩
theorem ati(J s:Int)(vs vt:Value)(C:Ch)(w:ω)(z:d8 w vs vt C)(Q:dw C.ab.length)(E:c6 C.ab s=true) :
 Calls prog 157 #[.agg #[ι J,vs,vt],ι s] w λe F=>e=.returned (ι (afg C.ab s))/\κ w F:=by
 have I:=aa (ap w (bu J vs vt));unfold dw at Q;obtain⟨k,rfl,O⟩:=fq E;obtain⟨b,o,ad,vi,ve,vx,rfl,ak,al,U,_⟩:=z.st O;obtain⟨V,W,Y,Z,c4⟩:=U;cases y:ct (aq C.ab (k:Int)).kind with
 | true =>have d:=aa y;clear y z E;go_enter func157,ntmps157;go_wp2_with (go_at_call 153;refine (ei _ _).mono ?_;rintro e F⟨rfl,rfl⟩;rw[d.out]);go_ret;exact⟨cw (by unfold afg;rw[ao d.out]),I⟩
 | false =>have d:=aa y;clear y z E;go_enter func157,ntmps157;go_wp2_with (go_at_call 153;refine (ei _ _).mono ?_;rintro e F⟨rfl,rfl⟩;rw[d.out]);go_ret;exact⟨cw (by unfold afg;rw[ah (by rw[d.out];simp)]),I⟩
theorem alx{S:List St}{a b:Int}(h:a=b\/jc S a b=true\/jc S b a=true):apart S a b=false:=by unfold apart;rw[ao h]
theorem a5w{S:List St}{a b:Int}(d:¬a=b)(y:jc S a b=false)(z:jc S b a=false):apart S a b=apF S (a.toNat+1) (lu S a) b:=by unfold apart;rw[ah (by rw[y,z];simp[d])]
theorem axo{S:List St}{b q:Int}(h:jc S b q=true):c6 S q=true:=by obtain ⟨y,z,d⟩:=lm h;unfold c6 at d ⊢;simp only[bj,bi]at d ⊢;omega
theorem a05(vr a b:Int)(vs vt:Value)(C:Ch)(w:ω)(hC:d8 w vs vt C)(hl:dw C.ab.length) :
 Calls prog 156 #[.agg #[ι vr,vs,vt],ι a,ι b] w λe w'=>e=.returned (.bool (apart C.ab a b))/\κ w w':=by
 have HB:=aa (ap w (bu vr vs vt));have HA:=aa (λ(W:ω)(s:Int)(h:κ (w.alloc (bu vr vs vt)) W)=>an0 vr s vs vt C W (hC.below (aj h)) hl);have Y:=aa (λ(W:ω)(s t:Int)(h:κ (w.alloc (bu vr vs vt)) W)=>ala vr s t vs vt C W (hC.below (aj h)) hl);have HC:=aa hC;unfold dw at hl;clear hC;by_cases U:a=b
 . have J:=aa (alx (S:=C.ab) (.inl U));have bb:(a==b)=true:=(by simpa using U);clear U;go_enter func156,ntmps156;go_wp2;go_ret;exact⟨az J.symm,HB⟩
 . have bb:(a==b)=false:=(by simpa using U);cases O:jc C.ab a b with
   | true =>have J:=aa (alx (S:=C.ab) (.inr (.inl O)));have H1:=aa O;clear U O;go_enter func156,ntmps156;go_wp2_with fail;refine(Y _ a b (ag _ _)).mono ?_;rintro e w1⟨rfl,y⟩;have z:=aa y;rw[H1.out];clear y;go_wp2;go_ret;exact⟨az J.symm,aj z⟩
   | false =>
    cases h2:jc C.ab b a with
    | true =>
     have J:=aa (alx (S:=C.ab) (.inr (.inr h2)))
     have H1:=aa O
     have H2:=aa h2
     clear U O h2
     go_enter func156,ntmps156
     go_wp2_with fail
     refine(Y _ a b (ag _ _)).mono ?_
     rintro e w1⟨rfl,y⟩
     have z:=aa y
     rw[H1.out]
     obtain⟨E,F,I⟩:=bc y
     clear y
     go_wp2_with fail
     refine(Y _ b a z).mono ?_
     rintro e w2⟨rfl,am⟩
     have ad:=aa (z.trans (am.mono z.size))
     rw[H2.out]
     clear am
     go_wp2
     go_ret
     exact⟨az J.symm,aj ad⟩
    | false =>
     have h0:=a5w U O h2
     have bk:(lu C.ab a+1).toNat<=a.toNat+1:=by rcases zx C.ab a with h | h<;>omega
     have ba:=aa (λq=>sj C.ab q)
     generalize apart C.ab a b=R at *
     have H0:=aa h0
     have H1:=aa O
     have H2:=aa h2
     clear h0 O h2 U
     go_enter func156,ntmps156
     go_wp2_with fail
     refine(Y _ a b (ag _ _)).mono ?_
     rintro e w1⟨rfl,y⟩
     have z:=aa y
     rw[H1.out]
     obtain⟨E,F,I⟩:=bc y
     clear y
     go_wp2_with fail
     refine(Y _ b a z).mono ?_
     rintro e w2⟨rfl,am⟩
     have a0:=z.trans (am.mono z.size)
     rw[H2.out]
     clear am E F I
     obtain⟨E,F,I⟩:=bc a0
     have ad:=aa a0
     clear a0
     go_wp2_with fail
     refine(HA _ a ad).mono ?_
     rintro e w3⟨rfl,a2⟩
     have a4:=aa (ad.trans (a2.mono ad.size))
     generalize lu C.ab a=u at *
     clear a2 E F I
     go_wp2_with fail
     go_loopw [7] (λp wr=>∃(n:Nat)(q:Int),(q+1).toNat<=n/\p=ι q/\Hid (R=apF C.ab n q b)/\κ (w.alloc (bu vr vs vt)) wr) (λp _=>(intOf p+1).toNat)
     case atStart=>exact ⟨a.toNat+1,u,bk,rfl,H0,a4⟩
     case round =>
      obtain⟨n,q,hn,rfl,J,hb⟩:=hrel
      obtain⟨wo,rfl⟩:∃wo:ω,wo=wr:=⟨_,rfl⟩
      obtain⟨E,F,I⟩:=bc hb
      have V:=aa hb
      clear hb
      by_cases hq:q<0
      . have d:=J.out
        have:apF C.ab n q b=false:=by
         cases n with
         | zero=>rfl
         | succ n=>rw[apF,ao hq]
        rw[this]at d
        have al:=aa d
        clear d this
        go_wp2
        go_ret
        exact⟨az al.symm,aj V⟩
      . obtain⟨m,rfl⟩:∃m,n=m+1:=⟨n-1,by omega⟩
        have d:=J.out
        rw[apF,ah hq]at d
        have bs:0<=q:=by omega
        cases Z:jc C.ab b q with
        | true =>
         rw[ao Z]at d
         obtain⟨k,rfl,hk⟩:=fq (axo Z)
         obtain⟨B,o,bt,vi,ve,vx,rfl,b0,bf,a1,_⟩:=HC.st hk
         have a9:=aa a1
         have al:=aa d
         have ax:=aa Z
         clear d Z a1
         go_wp2_with fail
         refine(Y _ b _ V).mono ?_
         rintro e w4⟨rfl,av⟩
         have Q:=V.trans (av.mono V.size)
         rw[ax.out]
         clear av E F I
         obtain⟨E,F,I⟩:=bc Q
         obtain⟨c0,c1,c2,c3,c4⟩:=a9.below (aj Q) bf
         have ak:=aa Q
         clear Q
         go_wp2
         go_ret
         exact⟨az al.symm,aj ak⟩
        | false =>
         rw[ah (by rw[Z];simp)]at d
         have al:=aa d
         have ax:=aa Z
         have a1:=ba.out q bs
         clear d Z
         go_wp2_with fail
         refine(Y _ b _ V).mono ?_
         rintro e w4⟨rfl,av⟩
         have Q:=V.trans (av.mono V.size)
         rw[ax.out]
         clear av E F I
         obtain⟨E,F,I⟩:=bc Q
         have ak:=aa Q
         clear Q
         go_wp2_with fail
         refine(HA _ q ak).mono ?_
         rintro e w5⟨rfl,a3⟩
         have a5:=aa (ak.trans (a3.mono ak.size))
         generalize lu C.ab q=u2 at *
         clear a3
         go_wp2
         go_roundw
         case rel=>exact ⟨m,u2,by omega,rfl,al,a5⟩
         case measure=>simp[intOf];omega
theorem ar2(E:Int)(s:Nat)(vs vt:Value)(C:Ch)(w:ω)(z:d8 w vs vt C)(J:dw C.ab.length)(O:s<C.ab.length) :
 Calls prog 85 #[.agg #[ι E,vs,vt],ι (s:Int)] w λe F=>e=.returned (.bool (ain C.ab s))/\κ w F:=by
 have y:=aa (ap w (bu E vs vt));unfold dw at J;obtain⟨b,o,ad,vi,ve,vx,rfl,ak,al,Q,_⟩:=z.st O;obtain⟨U,V,W,Y,Z⟩:=Q;clear z;by_cases h:s=0
 . have I:((s:Int)==0)=true:=(by simpa using h);have d:=aa h;clear h;go_enter func85,ntmps85;go_wp2;go_ret;exact⟨az (by unfold ain;rw[ao (by have:=d.out;omega)];rfl),y⟩
 . have I:((s:Int)==0)=false:=(by simpa using h);have d:=aa h;clear h;go_enter func85,ntmps85;go_wp2_with (go_at_call 84;refine (dx _ _ _ _).mono ?_;rintro e F⟨rfl,rfl⟩);go_ret;exact⟨az (by unfold ain;rw[ah (by have:=d.out;omega)]),y⟩
theorem au3(z:Int)(s:Nat)(vs vt:Value)(C:Ch)(w:ω)(F:d8 w vs vt C)(O:dw C.ab.length)(Z:s<C.ab.length) :
 Calls prog 86 #[.agg #[ι z,vs,vt],ι (s:Int)] w λe w'=>e=.returned (.bool (ahq C.ab s))/\κ w w':=by
 have I:=aa (ap w (bu z vs vt));have U:=aa (λ(W:ω)(s t:Int)(h:κ (w.alloc (bu z vs vt)) W)=>ala z s t vs vt C W (F.below (aj h)) O);unfold dw at O;obtain⟨b,o,ak,vi,ve,vx,rfl,al,am,ad,_⟩:=F.st Z;obtain⟨c0,c1,c2,c3,c4⟩:=ad;clear F;by_cases h:s=0
 . have V:((s:Int)==0)=true:=(by simpa using h);have y:=aa h;clear h;go_enter func86,ntmps86;go_wp2;go_ret;exact⟨az (by unfold ahq;rw[ao (by have:=y.out;omega)];rfl),I⟩
 . have V:((s:Int)==0)=false:=(by simpa using h);have y:=aa h;have h0:0<=(s:Int)-1:=(by omega);by_cases d:(aq C.ab (s:Int)).par=(s:Int)-1
   . have Y:((aq C.ab (s:Int)).par==(s:Int)-1)=true:=(by simpa using d);have E:=aa d;clear h d;go_enter func86,ntmps86;go_wp2;go_ret;exact⟨az (by unfold ahq;rw[ah (by have:=y.out;omega),E.out];simp),I⟩
   . have Y:((aq C.ab (s:Int)).par==(s:Int)-1)=false:=(by simpa using d);have E:=aa d;clear h d;go_enter func86,ntmps86;go_wp2_with fail;refine(U _ _ _ (ag _ _)).mono ?_;rintro e w1⟨rfl,J⟩;have Q:=aa (aj J);clear J;go_wp2;go_ret;exact⟨az (by unfold ahq;rw[ah (by have:=y.out;omega)];simp[E.out]),Q⟩
theorem az4(E:Int)(s:Nat)(vs vt:Value)(C:Ch)(w:ω)(z:d8 w vs vt C)(I:dw C.ab.length)(J:s<C.ab.length) :
 Calls prog 88 #[.agg #[ι E,vs,vt],ι (s:Int)] w λe Q=>e=.returned (.bool (ae5 C.ab s))/\κ w Q:=by
 have y:=aa (ap w (bu E vs vt));unfold dw at I;obtain⟨b,o,ad,vi,ve,vx,rfl,ak,al,O,_⟩:=z.st J;obtain⟨U,V,W,Y,Z⟩:=O;clear z;by_cases h:(aq C.ab (s:Int)).kind=2
 . have F:((aq C.ab (s:Int)).kind==2)=true:=(by simpa using h);have d:=aa h;clear h;go_enter func88,ntmps88;go_wp2;go_ret;exact⟨az (by unfold ae5;rw[d.out];rfl),y⟩
 . have F:((aq C.ab (s:Int)).kind==2)=false:=(by simpa using h);have d:=aa h;clear h;go_enter func88,ntmps88;go_wp2;go_ret;exact⟨az (by unfold ae5;simp[d.out];rfl),y⟩
theorem ba6{S:List St}{s:Nat}(z:s<S.length)(y:¬s=0)(d:ahq S s=true):c6 S (aq S s).par=true:=by
 unfold ahq at d;rw[ah (by omega)]at d;simp only[im,bi]at d;rcases d with d | d
 . rw[d];unfold c6;simp only[bj,bi];omega
 . exact axo d
abbrev qc(k p:Int)(y d z:Value):Obj:=.cells #[ι k,ι p,y,d,z] 59
theorem cg.bai{w:ω}{g:Nat}{t:TypeId}{a b c d e:Value}(h:cg w g t #[a,b,c,d,e]) :
 w.cell? (δ g 0)=some a/\w.cell? (δ g 1)=some b/\w.cell? (δ g 2)=some c/\w.cell? (δ g 3)=some d/\w.cell? (δ g 4)=some e:=⟨h.cell 0,h.cell 1,h.cell 2,h.cell 3,h.cell 4⟩
theorem ad6(w:ω)(x y:Obj):κ w ((w.alloc x).alloc y):=((ag _ _).alloc (ai _) x).alloc (by simp) y
theorem cq{w d:ω}{x y:Obj}(z:κ ((w.alloc x).alloc y) d):κ w d:=(ad6 w x y).trans (z.mono (by simp;omega))
theorem oq{w d:ω}{y k p:Int}{vs vt E z F:Value}(I:κ ((w.alloc (bu y vs vt)).alloc (qc k p E z F)) d) :
 (d.cell? (δ w.heap.size 0)=some (ι y)/\d.cell? (δ w.heap.size 1)=some vs/\d.cell? (δ w.heap.size 2)=some vt)/\
 (d.cell? (δ (w.heap.size+1) 0)=some (ι k)/\d.cell? (δ (w.heap.size+1) 1)=some (ι p)/\d.cell? (δ (w.heap.size+1) 2)=some E/\d.cell? (δ (w.heap.size+1) 3)=some z/\d.cell? (δ (w.heap.size+1) 4)=some F) :=
 ⟨(((cg.new w 25 #[ι y,vs,vt]).alloc _).below I (by simp;omega)).ax.1,((cg.dy (w.alloc (bu y vs vt)) 59 #[ι k,ι p,E,z,F] (w.heap.size+1) (by simp)).below I (by simp)).bai⟩
theorem a0b{S:List St}{s p:Nat}(y:¬s=0)(d:(aq S (s:Int)).par=(p:Int)):zn S (s:Int) =
 if (aq S (s:Int)).kind=4 then decide ((aq S (p:Int)).kind=2) else if ct (aq S (s:Int)).kind=true/\p=0 then false else decide ((aq S (p:Int)).kind=2)||decide ((aq S (p:Int)).kind=3):=by
 unfold zn;rw[ah (by omega),d];simp only[show ((p:Int)=0)=(p=0) from propext (by omega)]
theorem avi(vr:Int)(s:Nat)(vs vt:Value)(C:Ch)(w:ω)(Y:d8 w vs vt C)(hl:dw C.ab.length)(hs:s<C.ab.length)(hp:ahq C.ab s=true) :
 Calls prog 87 #[.agg #[ι vr,vs,vt],ι (s:Int)] w λe U=>e=.returned (.bool (zn C.ab s))/\κ w U:=by
 have HB:=aa (ap w (bu vr vs vt));unfold dw at hl;by_cases h:s=0
 . have h2:((s:Int)==0)=true:=(by simpa using h);have HN:=aa h;clear h;go_enter func87,ntmps87;go_wp2;go_ret;exact⟨az (by unfold zn;rw[ao (by have:=HN.out;omega)]),HB⟩
 . have h2:((s:Int)==0)=false:=(by simpa using h);obtain⟨p,ad,a0⟩:=fq (ba6 hs h hp);have I:=aa (a0b h ad);obtain⟨b,o,al,vi,ve,vx,rfl,a4,a5,a1,ak⟩:=Y.st hs;obtain⟨ui,ue,ux,⟨d0,d1,d2,d3,d4⟩,_⟩:=Y.st' a0;obtain⟨c0,c1,c2,c3,c4⟩:=a1;obtain⟨iA,a2,eA,am,xA,a3,rfl,rfl,rfl⟩:=ak.slices;rw[ad]at c1;generalize (aq C.ab (s:Int)).kind=K at *;generalize (aq C.ab (p:Int)).kind=O at *;generalize (aq C.ab (s:Int)).ip.length=il at *;generalize (aq C.ab (s:Int)).kv.length=el at *;generalize (aq C.ab (s:Int)).me.length=xl at *;have F:=aa (ad6 w (bu vr (.slice (some (δ b o)) C.ab.length al) vt) (qc K p (.slice iA il a2) (.slice eA el am) (.slice xA xl a3)));clear h Y hp ad ak;by_cases J:K=4
   . have av:(K==4)=true:=(by simpa using J);have z:=aa J;clear J;go_enter func87,ntmps87;go_wp2;go_ret;exact⟨az (by rw[I.out,ao z.out];rfl),F⟩
   . have av:(K==4)=false:=(by simpa using J);have z:=aa J;clear J;cases W:ct K with
     | true =>
      have y:=aa W;clear W;by_cases Q:p=0
      . have ax:((p:Int)==0)=true:=(by simpa using Q);have V:=aa Q;clear Q;go_enter func87,ntmps87;go_wp2_with (go_at_call 153;refine (ei _ _).mono ?_;rintro e U⟨rfl,rfl⟩;rw[y.out]);go_ret;exact⟨az (by rw[I.out,ah z.out,ao ⟨y.out,V.out⟩]),F⟩
      . have ax:((p:Int)==0)=false:=(by simpa using Q);have V:=aa Q;clear Q;by_cases d:O=2
        . have Z:(O==2)=true:=(by simpa using d);have E:=aa d;clear d;go_enter func87,ntmps87;go_wp2_with (go_at_call 153;refine (ei _ _).mono ?_;rintro e U⟨rfl,rfl⟩;rw[y.out]);go_ret;exact⟨az (by rw[I.out,ah z.out,ah (by simp[V.out]),E];rfl),F⟩
        . have Z:(O==2)=false:=(by simpa using d);have E:=aa d;clear d;go_enter func87,ntmps87;go_wp2_with (go_at_call 153;refine (ei _ _).mono ?_;rintro e U⟨rfl,rfl⟩;rw[y.out]);go_ret;exact⟨az (by rw[I.out,ah z.out,ah (by simp[V.out])];simp[E.out];rfl),F⟩
     | false =>
      have y:=aa W;clear W;by_cases d:O=2
      . have Z:(O==2)=true:=(by simpa using d);have E:=aa d;clear d;go_enter func87,ntmps87;go_wp2_with (go_at_call 153;refine (ei _ _).mono ?_;rintro e U⟨rfl,rfl⟩;rw[y.out]);go_ret;exact⟨az (by rw[I.out,ah z.out,ah (by rw[y.out];simp),E];rfl),F⟩
      . have Z:(O==2)=false:=(by simpa using d);have E:=aa d;clear d;go_enter func87,ntmps87;go_wp2_with (go_at_call 153;refine (ei _ _).mono ?_;rintro e U⟨rfl,rfl⟩;rw[y.out]);go_ret;exact⟨az (by rw[I.out,ah z.out,ah (by rw[y.out];simp)];simp[E.out];rfl),F⟩
theorem ao6(n k:Nat):((n:Int)==(k:Int))=decide (n=k):=by rw[dh,beq_iff_eq,bi];omega
theorem dd.at_{w:ω}{A:Option Addr}{n cap:Nat}{xs:List Int}(h:dd w (.slice A n cap) xs)(i:Nat)(E:i<xs.length):∃b o:Nat,A=some (δ b o)/\b<w.heap.size/\w.cell? (δ b (o+i))=some (ι (xs.getD i 0)):=by obtain ⟨O,Q,I,d,J⟩:=h;injection I with y U V;subst y;obtain⟨b,o,z,F,d⟩:=J i (xs.getD i 0) (by simp[List.getD,ae E]);rw[bq]at d;exact⟨b,o,z,F,d⟩
theorem a82(vr:Int)(s:Nat)(vs vt:Value)(C:Ch)(w:ω)(hC:d8 w vs vt C)(hl:dw C.ab.length)(hs:s<C.ab.length) :
 Calls prog 90 #[.agg #[ι vr,vs,vt],ι (s:Int)] w λe F=>e=.returned (.bool (amn C.ab s))/\κ w F:=by
 have a1:=aa hC;unfold dw at hl;obtain⟨b,o,a4,vi,ve,vx,rfl,bt,ak,bf,a2⟩:=hC.st hs;obtain⟨c0,c1,c2,c3,c4⟩:=bf;have av:=a2.1;obtain⟨iA,bk,eA,a5,xA,bs,rfl,rfl,rfl⟩:=a2.slices;have z:amn C.ab (s:Int)=amn C.ab (s:Int):=rfl;conv at z=>rhs;unfold amn
 generalize amn C.ab (s:Int)=R at *;generalize (aq C.ab (s:Int)).kind=K at *;generalize (aq C.ab (s:Int)).par=P at *;generalize (aq C.ab (s:Int)).ip=L at *;generalize (aq C.ab (s:Int)).kv.length=el at *;generalize (aq C.ab (s:Int)).me.length=xl at *;have I:=aa (ad6 w (bu vr (.slice (some (δ b o)) C.ab.length a4) vt) (qc K P (.slice iA L.length bk) (.slice eA el a5) (.slice xA xl bs)));clear hC a2;by_cases U:K≠2/\ct K=false
 . rw[ao U]at z;have E:=aa z;have b1:(K != 2)=true:=(by simpa using U.1);have O:=aa U.2;clear U z av;go_enter func90,ntmps90;go_wp2_with (go_at_call 153;refine (ei _ _).mono ?_;rintro e F⟨rfl,rfl⟩;rw[O.out]);go_ret;exact⟨az (by rw[E.out];exact ao6 _ 0),I⟩
 . rw[ah U]at z;have hK:K=2\/K=5\/K=6:=by
    unfold ct at U;by_cases h2:K=2
    . exact .inl h2
    . by_cases h5:K=5
      . exact .inr (.inl h5)
      . by_cases h6:K=6
        . exact .inr (.inr h6)
        . exact absurd ⟨h2,by simp[h5,h6]⟩ U
   clear U;by_cases ax:L.length≠1
   . rw[ao ax]at z;have E:=aa z;have bb:((L.length:Int) != 1)=true:=(by simp;omega);clear z av ax;rcases hK with rfl | rfl | rfl
     . go_enter func90,ntmps90;go_wp2;go_ret;exact⟨az E.symm,I⟩
     . go_enter func90,ntmps90;go_wp2_with fail;refine(ei _ _).mono ?_;rintro e F⟨rfl,rfl⟩;rw[show ct 5=true from rfl];go_wp2;go_ret;exact⟨az E.symm,I⟩
     . go_enter func90,ntmps90;go_wp2_with fail;refine(ei _ _).mono ?_;rintro e F⟨rfl,rfl⟩;rw[show ct 6=true from rfl];go_wp2;go_ret;exact⟨az E.symm,I⟩
   . rw[ah ax]at z;have ba:0<L.length:=(by omega);have bb:((L.length:Int) != 1)=false:=(by simp;omega);obtain⟨ib,io,rfl,b0,a9⟩:=av.at_ 0 ba;rw[iy]at a9;generalize L.getD 0 0=f at *;have Q:=aa (λ(W:ω)(h:κ w W)=>ac2 vr f _ vt C W (a1.below h) hl);have HI:=aa (λ(W:ω)(t:Int)(h:κ w W)=>ala vr f t _ vt C W (a1.below h) hl);clear av ax;cases al:c6 C.ab f with
     | false =>
      rw[ao (.inl al)]at z;have E:=aa z;have J:=aa al;clear z al;rcases hK with rfl | rfl | rfl
      . go_enter func90,ntmps90;go_wp2_with fail;refine(Q _ I).mono ?_;rintro e V⟨rfl,d⟩;obtain⟨⟨Y,Z,x2⟩,y0,y1,y2,y3,y4⟩:=oq d;have y:=aa (cq d);rw[J.out];clear d;go_wp2;go_ret;exact⟨az E.symm,y⟩
      . go_enter func90,ntmps90;go_wp2_with fail;refine(ei _ _).mono ?_;rintro e F⟨rfl,rfl⟩;rw[show ct 5=true from rfl];go_wp2_with fail;refine(Q _ I).mono ?_;rintro e V⟨rfl,d⟩;obtain⟨⟨Y,Z,x2⟩,y0,y1,y2,y3,y4⟩:=oq d;have y:=aa (cq d);rw[J.out];clear d;go_wp2;go_ret;exact⟨az E.symm,y⟩
      . go_enter func90,ntmps90;go_wp2_with fail;refine(ei _ _).mono ?_;rintro e F⟨rfl,rfl⟩;rw[show ct 6=true from rfl];go_wp2_with fail;refine(Q _ I).mono ?_;rintro e V⟨rfl,d⟩;obtain⟨⟨Y,Z,x2⟩,y0,y1,y2,y3,y4⟩:=oq d;have y:=aa (cq d);rw[J.out];clear d;go_wp2;go_ret;exact⟨az E.symm,y⟩
     | true =>
      obtain⟨q,rfl,hq⟩:=fq al
      obtain⟨ui,ue,ux,a3,_⟩:=a1.st' hq
      have ad:=aa a3
      have J:=aa al
      clear a3 al
      cases hh:ct (aq C.ab (q:Int)).kind with
      | true =>
       rw[ao (.inr hh)]at z
       have E:=aa z
       have O:=aa hh
       clear z hh
       rcases hK with rfl | rfl | rfl
       . go_enter func90,ntmps90
         go_wp2_with fail
         refine(Q _ I).mono ?_
         rintro e V⟨rfl,d⟩
         obtain⟨⟨Y,Z,x2⟩,y0,y1,y2,y3,y4⟩:=oq d
         have y:=aa (cq d)
         rw[J.out]
         obtain⟨d0,d1,d2,d3,d4⟩:=ad.below y ak
         clear d
         go_wp2_with fail
         refine(ei _ _).mono ?_
         rintro e F⟨rfl,rfl⟩
         rw[O.out]
         go_wp2
         go_ret
         exact⟨az E.symm,y⟩
       . go_enter func90,ntmps90
         go_wp2_with fail
         refine(ei _ _).mono ?_
         rintro e F⟨rfl,rfl⟩
         rw[show ct 5=true from rfl]
         go_wp2_with fail
         refine(Q _ I).mono ?_
         rintro e V⟨rfl,d⟩
         obtain⟨⟨Y,Z,x2⟩,y0,y1,y2,y3,y4⟩:=oq d
         have y:=aa (cq d)
         rw[J.out]
         obtain⟨d0,d1,d2,d3,d4⟩:=ad.below y ak
         clear d
         go_wp2_with fail
         refine(ei _ _).mono ?_
         rintro e F⟨rfl,rfl⟩
         rw[O.out]
         go_wp2
         go_ret
         exact⟨az E.symm,y⟩
       . go_enter func90,ntmps90
         go_wp2_with fail
         refine(ei _ _).mono ?_
         rintro e F⟨rfl,rfl⟩
         rw[show ct 6=true from rfl]
         go_wp2_with fail
         refine(Q _ I).mono ?_
         rintro e V⟨rfl,d⟩
         obtain⟨⟨Y,Z,x2⟩,y0,y1,y2,y3,y4⟩:=oq d
         have y:=aa (cq d)
         rw[J.out]
         obtain⟨d0,d1,d2,d3,d4⟩:=ad.below y ak
         clear d
         go_wp2_with fail
         refine(ei _ _).mono ?_
         rintro e F⟨rfl,rfl⟩
         rw[O.out]
         go_wp2
         go_ret
         exact⟨az E.symm,y⟩
      | false =>
       rw[ah (by rw[J.out,hh];simp)]at z
       have E:=aa z
       have O:=aa hh
       clear z hh
       rcases hK with rfl | rfl | rfl
       . go_enter func90,ntmps90
         go_wp2_with fail
         refine(Q _ I).mono ?_
         rintro e V⟨rfl,d⟩
         obtain⟨⟨Y,Z,x2⟩,y0,y1,y2,y3,y4⟩:=oq d
         have y:=aa (cq d)
         rw[J.out]
         obtain⟨d0,d1,d2,d3,d4⟩:=ad.below y ak
         clear d
         go_wp2_with fail
         refine(ei _ _).mono ?_
         rintro e F⟨rfl,rfl⟩
         rw[O.out]
         go_wp2_with fail
         refine(HI _ _ y).mono ?_
         rintro e w2⟨rfl,am⟩
         have a0:=aa (y.trans (am.mono y.size))
         clear am
         go_wp2
         go_ret
         exact⟨az (by rw[E.out];rfl),a0⟩
       . go_enter func90,ntmps90
         go_wp2_with fail
         refine(ei _ _).mono ?_
         rintro e F⟨rfl,rfl⟩
         rw[show ct 5=true from rfl]
         go_wp2_with fail
         refine(Q _ I).mono ?_
         rintro e V⟨rfl,d⟩
         obtain⟨⟨Y,Z,x2⟩,y0,y1,y2,y3,y4⟩:=oq d
         have y:=aa (cq d)
         rw[J.out]
         obtain⟨d0,d1,d2,d3,d4⟩:=ad.below y ak
         clear d
         go_wp2_with fail
         refine(ei _ _).mono ?_
         rintro e F⟨rfl,rfl⟩
         rw[O.out]
         go_wp2_with fail
         go_quiet (fail)
         go_wp2
         go_ret
         exact⟨az (by rw[E.out];rfl),bx y _⟩
       . go_enter func90,ntmps90
         go_wp2_with fail
         refine(ei _ _).mono ?_
         rintro e F⟨rfl,rfl⟩
         rw[show ct 6=true from rfl]
         go_wp2_with fail
         refine(Q _ I).mono ?_
         rintro e V⟨rfl,d⟩
         obtain⟨⟨Y,Z,x2⟩,y0,y1,y2,y3,y4⟩:=oq d
         have y:=aa (cq d)
         rw[J.out]
         obtain⟨d0,d1,d2,d3,d4⟩:=ad.below y ak
         clear d
         go_wp2_with fail
         refine(ei _ _).mono ?_
         rintro e F⟨rfl,rfl⟩
         rw[O.out]
         go_wp2_with fail
         refine(HI _ _ y).mono ?_
         rintro e w2⟨rfl,am⟩
         have a0:=aa (y.trans (am.mono y.size))
         clear am
         go_wp2
         go_ret
         exact⟨az (by rw[E.out];rfl),a0⟩
def opR(kd:Int):wv->wv
 | .ok k o=>.ok k (o ++ [(kd,0,0)])
 | .bad k=>.bad k
theorem afx{r:Option wv}{kd:Int}{R:wv}(h:jl r (λk o=>some (.ok k (o ++ [(kd,0,0)])))=some R):∃z,r=some z/\R=opR kd z:=by
 rcases fc h with ⟨k,d,rfl⟩ | ⟨k,o,d,y⟩
 . exact⟨_,d,rfl⟩
 . injection y with y;exact ⟨_,d,y.symm⟩
theorem ky{w:ω}{B:Nat}{e:TypeId}{s n:Nat}{v:Value}{xs:List Value}(h:w.ownsRow B e s v (n+1) xs):∃g cap,v=.slice (some (δ g 0)) (n+1) cap:=by
 rcases h.2 with ⟨_,h⟩ | ⟨a,b,_,h,_⟩
 . omega
 . exact⟨a,b,h⟩
theorem cg.grown{w d:ω}{g:Nat}{t:TypeId}{cs:Array Value}{row:Option Nat}(h:cg w g t cs)(y:w.grownBy d row)(z:some g≠row):cg d g t cs:=(y.block g h.lt z).trans h
theorem RSt.put{g k:Nat}{y v v':Value}{w d:ω}{o:List Tk}{t:Tk}(h:RSt g y w k v o)(E:w.grownBy d v.ownBlock)(I:d.ownsRow (g+1) 206 3 v' (o.length+1) (g9 o++mr t)):RSt g y (d.setCell (δ g 2) v') k v' (o ++ [t]):=by
 have F:some g≠v.ownBlock:=λz=>by have:=(h.own.lt g z.symm).1;omega
 exact⟨(h.blk.grown E F).ca 2 v',agh (aaj I) 2 v' (nl g)⟩
def lh(F:Nat):Prop:=∀(d:Array Value)(w:ω),Sem.run prog (callFunc F d) w=.ok (.enter F d) w
theorem pt{F : Nat}{d : Func}{c : Code}(E : prog.funcs[F]? = some d)(y : (d.name == "runtime.NumGoroutine") = false)(z : d.body = some c) : lh F := λI w => by
 simp only[beq_eq_false_iff_ne,ne_eq]at y
 simp[callFunc,go_sem,E,y,z]
theorem a5d:lh 235:=pt func235 (by kernel_rfl) rfl
theorem arr(ts:List Tk)(g F k Y:Nat)(kd:Int)(O v:Value)(av E:List Tk)(w:ω)(hk:k+1<=1000000)(I:RSt g O w k v av)(ho:E.length<=1000000)(hE:lh F)
 (HF:∀Q,Q=w.setCell (δ g 1) (ι (k+1:Nat))->Calls prog F #[φ g 0] Q (l4 g O (.ok Y E) v Q)) :
 Calls prog 269 #[φ g 0,.func (.func F) #[φ g 0] #[],ι kd] w (l4 g O (.ok Y (E ++ [(kd,0,0)])) v w):=by
 obtain⟨i0,HI,ad,ak,al⟩:=ιp Tryz.ai3;have HH:=aa HF;have HS:=aa I;obtain⟨⟨c0,c1,c2⟩,f0,f1,f2⟩:=I.blk.ax;clear I;unfold lh at hE;go_enter func269,ntmps269;go_wp2_with fail;refine(HH _ (by go_num)).mono ?_;rintro e w1⟨rfl,v1,U,y⟩;have HK:=aa (((j0.refl g v w).set 1 _).trans U);have d:=aa y;have hg:=y.lt;obtain⟨⟨d0,d1,d2⟩,e0,e1,e2⟩:=y.blk.ax;clear c0 c1 c2 f0 f1 f2 U y;go_wp2_with (at_builtin;refine wpList_append_own_at _ rfl _ _ 124 rfl (g+1) 206 i0 (.agg #[ι 0,ι 0,ι 0]) 3 24 underlying124 HI ad ak al rfl (by decide) _ _ _ rfl (d.own.alloc _) (δ w1.heap.size 0) 1 1 (mr (kd,0,0)) rfl rfl ?c1 ?c2 ?c3 ?c4 ?c5 ?_)
 case c1=>exact tt _ _ (kd,0,0) _ rfl
 case c2=>exact acf _
 case c3=>unfold maxLen;omega
 case c4=>omega
 case c5=>simp;omega
 intro v2 w2 J z _ W;obtain⟨g2,am,rfl⟩:=ky J;have Z:=aa ((d.kept ((ag _ _).alloc (ai _) _)).put z J);have HB:=aa (((HK.alloc _).grown z (by simpa using W)).set 2 (.slice (some (δ g2 0)) (E.length+1) am));have V:some g≠v1.ownBlock:=λhc=>by have:=(d.own.lt g hc.symm).1;omega
 obtain⟨⟨d0,d1,d2⟩,e0,e1,e2⟩:=((d.blk.alloc _).grown z V).ax;clear J z W V;go_wp2;go_ret;exact⟨rfl,_,HB,Z⟩
theorem aoy(ts:List Tk)(g F k J:Nat)(kd:Int)(y v:Value)(ad:List Tk)(w:ω)(hk:k+1<=1000000)(d:RSt g y w k v ad)(hE:lh F)
 (O:∀z,z=w.setCell (δ g 1) (ι (k+1:Nat))->Calls prog F #[φ g 0] z (l4 g y (.bad J) v z)) :
 Calls prog 269 #[φ g 0,.func (.func F) #[φ g 0] #[],ι kd] w (l4 g y (.bad J) v w):=by
 have Q:=aa O;have HS:=aa d;obtain⟨⟨W,Y,Z⟩,f0,f1,f2⟩:=d.blk.ax;clear d;unfold lh at hE;go_enter func269,ntmps269;go_wp2_with fail;refine(Q _ (by go_num)).mono ?_;rintro e w1⟨rfl,v1,o1,I,E⟩;have U:=aa (((j0.refl g v w).set 1 _).trans I);have V:=aa E;clear W Y Z f0 f1 f2 I E;go_wp2;go_ret;exact⟨rfl,_,_,U,V⟩
theorem wh(ts:List Tk)(g F n O k:Nat)(kd:Int)(y v:Value)(d:List Tk)(R:wv)(w:ω)(W:nj ts g y n O F)(U:lh F)(V:k+1<=ts.length)(hl:ts.length<=1000)(ho:d.length<=k)
 (Z:lg g w y ts)(I:RSt g y w k v d)(Y:jl (rd ts n O (k+1) d) (λk o=>some (.ok k (o ++ [(kd,0,0)])))=some R) :
 Calls prog 269 #[φ g 0,.func (.func F) #[φ g 0] #[],ι kd] w (l4 g y R v w):=by
 obtain⟨z,Q,rfl⟩:=afx Y;have hb:Below g w (w.setCell (δ g 1) (ι (k+1:Nat))):=(ag _ _).setCell (by simp) _;have h:=W (k+1) d z v _ Q V (by omega) (Z.below hb) (I.at_ (k+1));have hf:=gh ts n O (k+1) d z Q V;cases z with
 | ok J o'=>exact arr ts g F k J kd y v d o' w (by omega) I (by unfold ml at hf;omega) U (λw0 E=>E▸h)
 | bad J=>exact aoy ts g F k J kd y v d w (by omega) I U (λw0 E=>E▸h)
theorem cg.drew{w:ω}{g:Nat}{t:TypeId}{cs:Array Value}(h:cg w g t cs):cg w.drew g t cs:=h
theorem aoz(ts:List Tk)(g k b o cap:Nat)(v:Value)(x y z:Int)(d:List Tk)(w:ω)(I:RSt g (.slice (some (δ b o)) ts.length cap) w k v d)(hk:k<ts.length)(hl:ts.length<=1000)(ho:d.length<=k)(hb:b<g)
 (h0:w.cell? (δ b (o+k*3))=some (ι x))(h1:w.cell? (δ b (o+k*3+1))=some (ι y))(h2:w.cell? (δ b (o+k*3+2))=some (ι z)) :
 Calls prog 328 #[φ g 0] w λe w'=>e=.returned (.tuple #[])/\∃v',j0 g v w w' v'/\RSt g (.slice (some (δ b o)) ts.length cap) w' (k+1) v' (d ++ [(x,y,0)]):=by
 obtain⟨i0,HI,al,am,av⟩:=ιp Tryz.ai3;have O:=aa I;obtain⟨⟨c0,c1,c2⟩,f0,f1,f2⟩:=I.blk.ax;have hg:=I.lt;have a5:b<w.heap.size:=by omega
 have bb:(0:Int)<=(k:Int):=qs _;have bf:(k:Int)<(ts.length:Int):=by omega
 clear I;go_enter func328,ntmps328;go_wp2_with fail;go_region;all_goals go_wp2_with fail
 clear c0 c1 c2 f0 f1 f2 h0 h1 h2;have hv:v.ownBlock≠some w.heap.size:=λQ=>by have:=(O.own.lt _ Q).2;omega
 have a4:v.ownBlock≠some g:=λQ=>by have:=(O.own.lt _ Q).1;omega
 have Z:(w.setCell (δ g 1) (ι ((k:Int)+1))).heap.size=w.heap.size:=by simp
 have ak:=aa (((O.at_ (k+1)).kept ((ag _ _).alloc (ai _) (.cells #[ι x,ι y,ι z] 206))).drewN 1);have HM:=aa ((cg.dy (w.setCell (δ g 1) (ι ((k:Int)+1))) 206 #[ι x,ι y,ι z] w.heap.size Z).drewN 1);have HK:=aa ((((j0.refl g v w).set 1 (ι ((k:Int)+1))).alloc (.cells #[ι x,ι y,ι z] 206)).drewN 1);clear Z;generalize J:((w.setCell (δ g 1) (ι ((k:Int)+1))).alloc (.cells #[ι x,ι y,ι z] 206)).drew=E;have F:Hid (RSt g (.slice (some (δ b o)) ts.length cap) E (k+1) v d):=aa (by subst J;exact ak);have V:Hid (cg E w.heap.size 206 #[ι x,ι y,ι z]):=aa (by subst J;exact HM);have ad:Hid (j0 g v w E v):=aa (by subst J;exact HK);clear J;have hm:=V.lt;generalize w.heap.size=m at *;have ba:g<E.heap.size:=F.lt;obtain⟨⟨_,_,d2⟩,_,_,e2⟩:=F.blk.ax;obtain⟨⟨a0,a1,a2⟩,_⟩:=V.ax;have a9:=(F.blk.alloc (.cells #[ι x,ι y,ι 0] 206)).frozen 2;go_region_law
  ((refine step_append_lies _ (by rfl) _ _ _ (by rfl) (g+1) 206 i0 _ 3 24 underlying124 HI al am av rfl (by omega) v d.length (g9 d) (by rfl) ((F.own.alloc _).drew)
     (δ E.heap.size 0) 1 1 (mr (x,y,0)) (by rfl) (by rfl) (World.news_of_block (cs:=#[ι x,ι y,ι 0]) (t:=206) (fr:=(0,0)) (heap_alloc_new E _)) (acf _)
     (by omega) (by unfold maxLen;omega) (by omega) (by simp;omega) (E.heap.size+1) (by simp) ?_;intro Y W w2 a3 U ax bk;obtain ⟨⟨_,_,p2⟩,_,_,q2⟩:=((F.blk.alloc _).drew.grown U (j1 a4)).ax))
 all_goals
  have HA:=aa (((F.kept ((ag _ _).alloc (ai _) _)).drewN 1).put U a3)
  have HB:=aa ((((ad.alloc _).drewN 1).grown U (v2:=.slice (some (δ Y 0)) (d.length+1) W) (by rcases ax with h | h;exact .inl h.symm;right;rw[h];simp[Value.ownBlock])).set 2 (.slice (some (δ Y 0)) (d.length+1) W))
  go_wp2
  go_end0
  exact⟨rfl,_,HB,HA⟩
theorem ars(ts:List Tk)(g k:Nat)(z v:Value)(y:List Tk)(w:ω)(d:k<ts.length)(Y:ts.length<=1000)(Z:y.length<=k)(U:lg g w z ts)(Q:RSt g z w k v y) :
 Calls prog 328 #[φ g 0] w λe E=>e=.returned (.tuple #[])/\∃v',j0 g v w E v'/\RSt g z E (k+1) v' (y ++ [(jt ts k,num ts k,0)]):=by
 obtain⟨A,O,rfl,hc,W⟩:=U;obtain⟨b,o,rfl,V,F,I,J⟩:=W k ts[k] (ae d);rw[aht (ae d),a3v (ae d)];exact aoz ts g k b o O v _ _ _ y w Q d Y Z V F I J
theorem yy.kept{g b:Nat}{v v':Value}{w d:ω}{xs:List Int}(h:yy w b xs)(E:j0 g v w d v')(y:b<w.heap.size)(z:b≠g)(F:v.ownBlock≠some b):yy d b xs:=λi x I =>
 (pj (a:=(δ b i)) (w:=w) (E.block b y z F)).trans (h i x I)
theorem yy.drewN{w:ω}{b:Nat}{xs:List Int}(h:yy w b xs)(n:Nat):yy (w.drewN n) b xs:=h
theorem lg.drewN{g:Nat}{w:ω}{v:Value}{ts:List Tk}(h:lg g w v ts)(n:Nat):lg g (w.drewN n) v ts:=h
def a6h(ts:List Tk)(g:Nat)(z:Value)(E:Nat)(R:wv)(v:Value)(w:ω)(N y:Nat)(t:Value)(wr:ω):Prop :=
 (∃(k:Nat)(o:List Tk)(d:Value),t=.bool true/\y<=N/\rd ts y (10+E) k o=some R/\k<=ts.length/\o.length<=k/\j0 g v w wr d/\RSt g z wr k d o)\/
 (∃(k:Nat)(o:List Tk)(d:Value),t=.bool false/\R=.bad k/\j0 g v w wr d/\RSt g z wr k d o)
theorem akm{ts:List Tk}{g:Nat}{W:Value}{Q:Nat}{R d:wv}{v V:Value}{w Y:ω}{N z:Nat}{e:Ending}{Z:ω}{O:Nat}{U:List Tk}
 (J:j0 g v w Y V)(h:l4 g W d V Y e Z)(hN:z<=N)(hf:ml ts O U d)(hk:U.length<=O)(y:jl (some d) (λk o=>rd ts z (10+Q) k o)=some R):∃t,e=.returned t/\a6h ts g W Q R v w N z t Z:=by
 cases d with
 | ok k o=>obtain ⟨rfl,I,E,F⟩:=h;unfold ml at hf;exact ⟨_,rfl,.inl ⟨k,o,I,rfl,hN,y,by omega,by omega,J.trans E,F⟩⟩
 | bad k=>obtain ⟨rfl,I,o,E,F⟩:=h;injection y with y;exact ⟨_,rfl,.inr ⟨k,o,I,rfl,y.symm,J.trans E,F⟩⟩
theorem a8g{ts:List Tk}{k:Nat}{o:List Tk}{x:Tk}{R:wv}{r:Option wv}(y:∀d,r=some d->ml ts (k+1) o d)(h:jl r (λk o=>some (.ok k (o ++ [x])))=some R):ml ts k o R:=by
 rcases fc h with ⟨z,a,rfl⟩ | ⟨z,E,a,c⟩
 . have:=y _ a;unfold ml at this ⊢;omega
 . have:=y _ a;injection c with c;subst c;unfold ml at this ⊢;simp only[aw,bm,dg];omega
theorem a8f{r:Option wv}{x:Tk}{f:Nat->List Tk->Option wv}{R:wv}(h:jl r (λk o=>f k (o ++ [x]))=some R):∃d,jl r (λk o=>some (.ok k (o ++ [x])))=some d/\jl (some d) f=some R:=by
 rcases fc h with ⟨y,rfl,rfl⟩ | ⟨y,z,rfl,c⟩
 . exact⟨_,rfl,rfl⟩
 . exact⟨_,rfl,c⟩
theorem a7u(ts:List Tk)(g F n d k b cap:Nat)(I v:Value)(U:List Tk)(xs:List Int)(R:wv)(w:ω)(h1:1<=d)(h6:d<6)(h3:d≠3)(hF:∀m,m<=n->nj ts g I m (d+1) F)(hE:lh F)
 (bb:∀x,ab4 xs x=decide (lvl x=d))(b2:xs.length<=3)(hX:yy w b xs)(hb:b<w.heap.size)(a4:b≠g)(a5:v.ownBlock≠some b)
 (hR:rd ts (n+1) d k U=some R)(hk:k<=ts.length)(hl:ts.length<=1000)(ho:U.length<=k)(hT:lg g w I ts)(hS:RSt g I w k v U) :
 Calls prog 234 #[φ g 0,.func (.func F) #[φ g 0] #[],.slice (some (δ b 0)) xs.length cap] w (l4 g I R v w):=by
 have HF:=aa hF;have HE:=aa hE;have a2:=aa bb;have HX:=aa hX;have HT:=aa hT;have HS:=aa hS;have bk:=aa a5;have bf:=aa a4;rw[aos n d U h6 h3]at hR;obtain⟨O,av,a3⟩:∃O,rd ts n (d+1) k U=some O/\jl (some O) (λk o=>rd ts n (10+d) k o)=some R:=by
  rcases fc hR with ⟨k',a,c⟩ | ⟨k',o',a,c⟩
  . exact⟨_,a,by subst c;rfl⟩
  . exact⟨_,a,c⟩
 have bs:=aa av;have al:=aa a3;have ak:=aa (gh ts n (d+1) k U O av hk);clear hF bb hX hT hS hR av a3 a5 a4;unfold lh at hE;go_enter func234,ntmps234;go_wp2_with fail;refine(HF n (ai _) k U O v w bs hk ho HT HS).mono ?_;intro e w1 Y;obtain⟨t,rfl,hrel⟩:=akm (N:=n) (j0.refl g v w) Y (ai n) ak ho al;have am:=aa hrel;clear Y hrel;go_wp2_with fail;go_loopg [7] n (λgk t wr=>a6h ts g I d R v w n gk t wr)
 case atStart=>exact am
 case round =>
  rcases hrel with ⟨y,E,Z,rfl,b1,z,ax,a9,Q,W⟩ | ⟨y,E,Z,rfl,rfl,Q,W⟩
  . obtain⟨m,rfl⟩:∃m,gk=m+1:=by
     cases gk with
     | zero=>rw[rd]at z;cases z
     | succ m=>exact ⟨m,rfl⟩
    have HK:=aa Q;have J:=aa W;have ad:=aa (HT.below (HS.below Q));have a1:=aa (HX.kept Q hb bf bk);clear Q W;by_cases V:lvl (jt ts y)=d
    . have b0:y<ts.length:=acz (ts:=ts) (k:=y) (by omega);have hh:ab4 xs (jt ts y)=true:=(by rw[a2.out,V];simp);rw[aot m d E h1 V]at z;obtain⟨R2,a0,ba⟩:=a8f (f:=λk o=>rd ts m (10+d) k o) z;have al:=aa a0;have bt:=aa ba;have ak:=aa (a8g (k:=y) (o:=E) (λO h=>gh ts m (d+1) (y+1) E O h (by omega)) a0);clear z V a0 ba;go_wp2_with fail;refine(m8 ts g y I Z _ E ad J ax (by omega)).mono ?_;rintro e w2⟨rfl,a,rfl⟩;go_wp2_with fail;refine(abo xs b cap _ _ (a1.drewN a) (by omega)).mono ?_;rintro e w2⟨rfl,rfl⟩;rw[hh];go_wp2_with fail;refine(m8 ts g y I Z _ E (ad.drewN a) (J.drewN a) ax (by omega)).mono ?_;rintro e w2⟨rfl,c,rfl⟩;go_wp2_with fail;refine(wh ts g F m (d+1) y _ I Z E R2 _ (HF m (by omega)) HE b0 hl a9 (ad.drewN (a+c)) (J.drewN (a+c)) al).mono ?_;intro e w3 Y;obtain⟨t,rfl,hrel⟩:=akm (N:=n) (HK.drewN (a+c)) Y (show m<=n by omega) ak a9 bt;have am:=aa hrel;clear Y hrel;go_wp2_with fail;go_roundg m
      case measure=>omega
      case rel=>exact am
    . have hh:ab4 xs (jt ts y)=false:=(by rw[a2.out];simpa using V);rw[aou m d E V]at z;injection z with z;subst z;clear V;go_wp2_with fail;refine(m8 ts g y I Z _ E ad J ax (by omega)).mono ?_;rintro e w2⟨rfl,a,rfl⟩;go_wp2_with fail;refine(abo xs b cap _ _ (a1.drewN a) (by omega)).mono ?_;rintro e w2⟨rfl,rfl⟩;rw[hh];go_wp2;go_ret;exact⟨rfl,_,HK.drewN a,J.drewN a⟩
  . have HK:=aa Q;have J:=aa W;clear Q W;go_wp2;go_ret;exact⟨rfl,_,_,HK,J⟩
theorem as1:lh 270:=pt func270 (by kernel_rfl) rfl
theorem a5b:lh 307:=pt func307 (by kernel_rfl) rfl
theorem a5a:lh 323:=pt func323 (by kernel_rfl) rfl
theorem as0:lh 326:=pt func326 (by kernel_rfl) rfl
theorem adt(x:Int):(lvl x=1↔x=13)/\(lvl x=2↔x=12)/\(lvl x=3↔x=8\/x=9\/x=10\/x=11)/\(lvl x=4↔x=3\/x=4)/\(lvl x=5↔x=5\/x=6\/x=7):=by
 unfold lvl;by_cases d:x=13
 . subst d;decide
 . by_cases y:x=12
   . subst y;decide
   . rw[ah d,ah y];by_cases z:8<=x/\x<=11
     . rw[ao z];omega
     . rw[ah z];by_cases E:x=3\/x=4
       . rw[ao E];omega
       . rw[ah E];by_cases F:5<=x/\x<=7
         . rw[ao F];omega
         . rw[ah F];omega
theorem bc8(x:Int):ab4 [13] x=decide (lvl x=1):=by unfold ab4;rw[decide_eq_decide,(adt x).1];simp
theorem bc7(x:Int):ab4 [12] x=decide (lvl x=2):=by unfold ab4;rw[decide_eq_decide,(adt x).2.1];simp
theorem bc6(x:Int):ab4 [3,4] x=decide (lvl x=4):=by unfold ab4;rw[decide_eq_decide,(adt x).2.2.2.1];simp
theorem bc5(x:Int):ab4 [5,6,7] x=decide (lvl x=5):=by unfold ab4;rw[decide_eq_decide,(adt x).2.2.2.2];simp
theorem a4i(w:ω)(xs:List Int)(t:TypeId):yy (w.alloc (.cells (xs.map λx=>Value.int .i64 x).toArray t)) w.heap.size xs:=λi x d=>by
 rw[(cg.new w t _).cell]
 simp[d]
theorem ajc(ts:List Tk)(g F n d k:Nat)(z v:Value)(I:List Tk)(xs:List Int)(R:wv)(w:ω)(t:TypeId)(W:1<=d)(Z:d<6)(Y:d≠3)(hF:∀m,m<=n->nj ts g z m (d+1) F)(hE:lh F)
 (ak:∀x,ab4 xs x=decide (lvl x=d))(ad:xs.length<=3)(hR:rd ts (n+1) d k I=some R)(y:k<=ts.length)(hl:ts.length<=1000)(ho:I.length<=k)(hT:lg g w z ts)(J:RSt g z w k v I) :
 Calls prog 234 #[φ g 0,.func (.func F) #[φ g 0] #[],.slice (some (δ w.heap.size 0)) xs.length xs.length] (w.alloc (.cells (xs.map λx=>Value.int .i64 x).toArray t)) (l4 g z R v w):=by
 have E:κ w (w.alloc (.cells (xs.map λx=>Value.int .i64 x).toArray t)):=(ag _ _).alloc (ai _) _;have hg:=J.lt;refine(a7u ts g F n d k w.heap.size xs.length z v I xs R _ W Z Y hF hE ak ad (a4i w xs t) (by simp) (by omega) (λhc=>by have:=(J.own.lt _ hc).2;omega) hR y hl ho (hT.below (E.mono (su hg))) (J.kept E)).mono ?_;intro e w' V;cases R with
 | ok k o=>obtain ⟨O,U,y,Q⟩:=V;exact ⟨O,U,j0.after E y,Q⟩
 | bad k=>obtain ⟨O,U,o,y,Q⟩:=V;exact ⟨O,U,o,j0.after E y,Q⟩
theorem l4.ret{g:Nat}{d v:Value}{R:wv}{w y:ω}{e:Ending}(h:l4 g d R v w e y):∃b,e=.returned (.bool b):=by
 cases R with
 | ok k o=>exact ⟨_,h.1⟩
 | bad k=>exact ⟨_,h.1⟩
theorem a8e(ts:List Tk)(g n:Nat)(y:Value)(Q:ts.length<=1000)(z:∀m,m<=n->nj ts g y m 2 235):nj ts g y (n+1) 1 182:=by intro k V R v w E O U I F;have H:=aa (ajc ts g 235 n 1 k y v V [13] R w 3 (by omega) (by omega) (by omega) z a5d bc8 (by simp) E O Q U I F);clear E I F z;go_enter func182,ntmps182;go_wp2_with fail;refine H.out.mono ?_;intro e W d;obtain⟨b,rfl⟩:=d.ret;have J:=aa d;clear d;go_wp2;go_ret;exact J
theorem a52(ts:List Tk)(g n:Nat)(y:Value)(Q:ts.length<=1000)(z:∀m,m<=n->nj ts g y m 3 270):nj ts g y (n+1) 2 235:=by intro k V R v w E O U I F;have H:=aa (ajc ts g 270 n 2 k y v V [12] R w 3 (by omega) (by omega) (by omega) z as1 bc7 (by simp) E O Q U I F);clear E I F z;go_enter func235,ntmps235;go_wp2_with fail;refine H.out.mono ?_;intro e W d;obtain⟨b,rfl⟩:=d.ret;have J:=aa d;clear d;go_wp2;go_ret;exact J
theorem a7i(ts:List Tk)(g n:Nat)(y:Value)(Q:ts.length<=1000)(z:∀m,m<=n->nj ts g y m 5 323):nj ts g y (n+1) 4 307:=by intro k V R v w E O U I F;have H:=aa (ajc ts g 323 n 4 k y v V [3,4] R w 3 (by omega) (by omega) (by omega) z a5a bc6 (by simp) E O Q U I F);clear E I F z;go_enter func307,ntmps307;go_wp2_with fail;refine H.out.mono ?_;intro e W d;obtain⟨b,rfl⟩:=d.ret;have J:=aa d;clear d;go_wp2;go_ret;exact J
theorem arn(ts:List Tk)(g n:Nat)(y:Value)(Q:ts.length<=1000)(z:∀m,m<=n->nj ts g y m 6 326):nj ts g y (n+1) 5 323:=by intro k V R v w E O U I F;have H:=aa (ajc ts g 326 n 5 k y v V [5,6,7] R w 3 (by omega) (by omega) (by omega) z as0 bc5 (by simp) E O Q U I F);clear E I F z;go_enter func323,ntmps323;go_wp2_with fail;refine H.out.mono ?_;intro e W d;obtain⟨b,rfl⟩:=d.ret;have J:=aa d;clear d;go_wp2;go_ret;exact J
theorem a9i(x:Int)(h:lvl x≠3):(x==8)=false/\(x==9)=false/\(x==10)=false/\(x==11)=false:=by have:=(adt x).2.2.1;simp only[beq_eq_false_iff_ne,ne_eq];omega
theorem l4.after{g:Nat}{J v I:Value}{R:wv}{w Q O:ω}{e:Ending}(F:j0 g v w Q I)(h:l4 g J R I Q e O):l4 g J R v w e O:=by
 cases R with
 | ok k o=>obtain ⟨d,E,y,z⟩:=h;exact ⟨d,E,F.trans y,z⟩
 | bad k=>obtain ⟨d,E,o,y,z⟩:=h;exact ⟨d,E,o,F.trans y,z⟩
theorem aln(ts:List Tk)(g E:Nat)(F v:Value)(w:ω)(d:Calls prog 307 #[φ g 0] w (l4 g F (.bad E) v w)) :
 Calls prog 285 #[φ g 0] w (l4 g F (.bad E) v w):=by
 have H:=aa d;clear d;go_enter func285,ntmps285;go_wp2_with fail;refine H.out.mono ?_;rintro e U⟨rfl,Q,O,y,z⟩;have I:=aa y;have J:=aa z;clear y z;go_wp2;go_ret;exact⟨rfl,_,_,I,J⟩
theorem alm(ts:List Tk)(g d:Nat)(z v:Value)(E:List Tk)(w:ω)(hl:ts.length<=1000)(ad:d<=ts.length)(hg:g<=w.heap.size)(Q:∀y,Below g w y->lg g y z ts)(O:∀y v',j0 g v w y v'->Below g w y)(U:Calls prog 307 #[φ g 0] w (l4 g z (.ok d E) v w))(J:lvl (jt ts d)≠3) :
 Calls prog 285 #[φ g 0] w (l4 g z (.ok d E) v w):=by
 have H:=aa U;have Z:=aa Q;have Y:=aa O;obtain⟨n8,n9,ak,al⟩:=a9i _ J;clear U Q O J;go_enter func285,ntmps285;go_wp2_with fail;refine H.out.mono ?_;rintro e w1⟨rfl,v1,V,W⟩;have F:=aa V;have I:=aa W;clear V W;go_wp2_with fail;refine(m8 ts g d z v1 _ E (Z _ (Y _ _ F)) I ad (by omega)).mono ?_;rintro e w2⟨rfl,a,rfl⟩;generalize jt ts d=x at *;go_wp2;go_ret;exact⟨rfl,_,F.drewN a,I.drewN a⟩
theorem alk(ts:List Tk)(g n d:Nat)(y v:Value)(z:List Tk)(R:wv)(x:Int)(w:ω)(hl:ts.length<=1000)(ad:d<ts.length)(ak:z.length<=d)(hg:g<=w.heap.size)(Y:∀E,Below g w E->lg g E y ts)(U:∀E v',j0 g v w E v'->Below g w E)(Z:Calls prog 307 #[φ g 0] w (l4 g y (.ok d z) v w))
 (V:nj ts g y n 4 307)(hx:jt ts d=x)(h3:x=8\/x=9\/x=10\/x=11)(W:jl (rd ts n 4 (d+1) z) (λk o=>some (.ok k (o ++ [(x,0,0)])))=some R) :
 Calls prog 285 #[φ g 0] w (l4 g y R v w):=by
 have H:=aa Z;have Q:=aa Y;have J:=aa U;have HX:=aa hx;have HF:=aa V;have HR:=aa W;clear Z Y U hx V W;rcases h3 with rfl | rfl | rfl | rfl;all_goals
  go_enter func285,ntmps285
  go_wp2_with fail
  refine H.out.mono ?_
  rintro e w1⟨rfl,v1,hk,hs⟩
  have F:=aa hk
  have O:=aa hs
  clear hk hs
  go_wp2_with fail
  refine(m8 ts g d y v1 _ z (Q _ (J _ _ F)) O (by omega) (by omega)).mono ?_
  rintro e w2⟨rfl,a,rfl⟩
  rw[HX.out]
  go_wp2_with fail
  refine(wh ts g 307 n 4 d _ y v1 z R _ HF a5b ad hl ak ((Q _ (J _ _ F)).drewN a) (O.drewN a) HR).mono ?_
  intro e w3 I
  obtain⟨b,rfl⟩:=I.ret
  have HP:=aa (I.after (F.drewN a))
  clear I
  go_wp2
  go_ret
  exact HP
theorem alo(ts:List Tk)(g n k:Nat)(y v:Value)(z:List Tk)(R:wv)(w:ω)(hl:ts.length<=1000)(Q:nj ts g y n 4 307)(V:k<=ts.length)(Y:z.length<=k)(U:lg g w y ts)(I:RSt g y w k v z)
 (hR:jl (rd ts n 4 k z) (λd o=>if lvl (jt ts d)=3 then jl (rd ts n 4 (d+1) o) λak W=>some (.ok ak (W ++ [(jt ts d,0,0)])) else some (.ok d o))=some R) :
 Calls prog 285 #[φ g 0] w (l4 g y R v w):=by
 have ad:∀E,Below g w E->lg g E y ts:=λE h=>U.below h;have Z:∀E v',j0 g v w E v'->Below g w E:=λE v' h=>I.below h;rcases fc hR with ⟨d,J,rfl⟩ | ⟨d,W,J,F⟩
 . exact aln ts g d y v w (Q k z _ v w J V Y U I)
 . have hf:=gh ts n 4 k z _ J V;unfold ml at hf;by_cases O:lvl (jt ts d)=3
   . rw[ao O]at F;exact alk ts g n d y v W R _ w hl (acz (by omega)) (by omega) (su I.lt) ad Z (Q k z _ v w J V Y U I) Q rfl ((adt _).2.2.1.1 O) F
   . rw[ah O]at F;injection F with F;subst F;exact alm ts g d y v W w hl (by omega) (su I.lt) ad Z (Q k z _ v w J V Y U I) O
theorem a8m(ts:List Tk)(g n:Nat)(y:Value)(hl:ts.length<=1000)(U:nj ts g y n 3 270)(V:nj ts g y n 4 307):nj ts g y (n+1) 3 270:=by
 intro k F R v w z Z ho Y W;have HF:=aa U;have ad:=aa V;have J:=aa Y;have I:=aa W;by_cases E:jt ts k=14
 . rw[ajg n F E]at z;have ak:k<ts.length:=p6 (by omega);have Q:=aa z;have HC:=aa E;clear z Y W U V E;go_enter func270,ntmps270;go_wp2_with fail;refine(m8 ts g k y v _ F J I Z (by omega)).mono ?_;rintro e w1⟨rfl,a,rfl⟩;rw[HC.out];go_wp2_with fail;refine(wh ts g 270 n 3 k _ y v F R _ HF as1 ak hl ho (J.drewN a) (I.drewN a) Q).mono ?_;intro e w3 d;obtain⟨b,rfl⟩:=d.ret;have O:=aa (d.after ((j0.refl g v w).drewN a));clear d;go_wp2;go_ret;exact O
 . rw[ajh n F E]at z;have Q:=aa z;have al:(jt ts k==14)=false:=(by simpa using E);clear z Y W U V E;go_enter func270,ntmps270;go_wp2_with fail;refine(m8 ts g k y v _ F J I Z (by omega)).mono ?_;rintro e w1⟨rfl,a,rfl⟩;go_wp2_with fail;refine(alo ts g n k y v F R _ hl ad Z ho (J.drewN a) (I.drewN a) Q).mono ?_;intro e w3 d;obtain⟨b,rfl⟩:=d.ret;have O:=aa (d.after ((j0.refl g v w).drewN a));clear d;go_wp2;go_ret;exact O
theorem ap0(g k I:Nat)(d v:Value)(ad:List Tk)(w:ω)(hk:k+1<=1000000)(z:RSt g d w k v ad)
 (J:∀y,y=w.setCell (δ g 1) (ι (k+1:Nat))->Calls prog 182 #[φ g 0] y (l4 g d (.bad I) v y)) :
 Calls prog 329 #[φ g 0] w (l4 g d (.bad I) v w):=by
 have O:=aa J;obtain⟨⟨V,W,Y⟩,Z,f1,f2⟩:=z.blk.ax;clear z;go_enter func329,ntmps329;go_wp2_with fail;refine(O _ (by go_num)).mono ?_;rintro e w1⟨rfl,v1,o1,F,E⟩;have Q:=aa (((j0.refl g v w).set 1 _).trans F);have U:=aa E;clear V W Y Z f1 f2 F E;go_wp2;go_ret;exact⟨rfl,_,_,Q,U⟩
theorem amt(ts:List Tk)(g k d:Nat)(y v:Value)(ak V:List Tk)(w:ω)(hl:ts.length<=1000)(hk:k+1<=1000000)(ad:d<=ts.length)(Q:∀W,Below g w W->lg g W y ts)(z:RSt g y w k v ak)(E:jt ts d≠18)
 (Y:∀F,F=w.setCell (δ g 1) (ι (k+1:Nat))->Calls prog 182 #[φ g 0] F (l4 g y (.ok d V) v F)) :
 Calls prog 329 #[φ g 0] w (l4 g y (.bad d) v w):=by
 have Z:=aa Y;have HT:=aa Q;have HS:=aa z;have al:(jt ts d==18)=false:=by simpa using E
 have am:(jt ts d != 18)=true:=by simpa using E
 obtain⟨⟨c0,c1,c2⟩,f0,f1,f2⟩:=z.blk.ax;clear z Q E;go_enter func329,ntmps329;go_wp2_with fail;refine(Z _ (by go_num)).mono ?_;rintro e w1⟨rfl,v1,U,O⟩;have I:=aa (((j0.refl g v w).set 1 _).trans U);have J:=aa O;clear c0 c1 c2 f0 f1 f2 U O;go_wp2_with fail;refine(m8 ts g d y v1 _ V (HT _ (HS.below I)) J ad (by omega)).mono ?_;rintro e w2⟨rfl,a,rfl⟩;go_wp2;go_ret;exact⟨rfl,_,_,I.drewN a,J.drewN a⟩
theorem atq(ts:List Tk)(g k d:Nat)(y v:Value)(al F:List Tk)(w:ω)(hl:ts.length<=1000)(hk:k+1<=1000000)(ak:d<=ts.length)(hT:∀w',Below g w w'->lg g w' y ts)(z:RSt g y w k v al)(hx:jt ts d=18)
 (HF:∀I,I=w.setCell (δ g 1) (ι (k+1:Nat))->Calls prog 182 #[φ g 0] I (l4 g y (.ok d F) v I)) :
 Calls prog 329 #[φ g 0] w (l4 g y (.ok (d+1) F) v w):=by
 have HH:=aa HF;have HT:=aa hT;have HS:=aa z;have HX:=aa hx;obtain⟨⟨Q,U,V⟩,W,Y,Z⟩:=z.blk.ax;clear z hT hx;go_enter func329,ntmps329;go_wp2_with fail;refine(HH _ (by go_num)).mono ?_;rintro e w1⟨rfl,v1,ad,E⟩;have J:=aa (((j0.refl g v w).set 1 _).trans ad);have O:=aa E;clear Q U V W Y Z;obtain⟨⟨Q,U,V⟩,W,Y,Z⟩:=E.blk.ax;clear ad E;go_wp2_with fail;refine(m8 ts g d y v1 _ F (HT _ (HS.below J)) O ak (by omega)).mono ?_;rintro e w2⟨rfl,a,rfl⟩;rw[HX.out];go_wp2;go_ret;exact⟨rfl,_,(J.drewN a).set 1 _,(O.drewN a).at_ (d+1)⟩
theorem ap1(ts:List Tk)(g n k:Nat)(E v:Value)(z:List Tk)(R:wv)(w:ω)(Y:ts.length<=1000)(hF:nj ts g E n 1 182)(W:k<ts.length)(ho:z.length<=k)(U:lg g w E ts)(O:RSt g E w k v z)
 (hR:jl (rd ts n 1 (k+1) z) (λd o=>if jt ts d=18 then some (.ok (d+1) o) else some (.bad d))=some R) :
 Calls prog 329 #[φ g 0] w (l4 g E R v w):=by
 have hb:Below g w (w.setCell (δ g 1) (ι (k+1:Nat))):=(ag _ _).setCell (by simp) _;have V:∀Q,Below g w Q->lg g Q E ts:=λQ h=>U.below h;have h:=λR1 F=>hF (k+1) z R1 v _ F W (by omega) (U.below hb) (O.at_ (k+1));rcases fc hR with ⟨d,F,rfl⟩ | ⟨d,Z,F,y⟩
 . exact ap0 g k d E v z w (by omega) O (λw0 I=>I▸h _ F)
 . have hf:=gh ts n 1 (k+1) z _ F W;unfold ml at hf;by_cases J:jt ts d=18
   . rw[ao J]at y;injection y with y;subst y;exact atq ts g k d E v z Z w Y (by omega) (by omega) V O J (λw0 I=>I▸h _ F)
   . rw[ah J]at y;injection y with y;subst y;exact amt ts g k d E v z Z w Y (by omega) (by omega) V O J (λw0 I=>I▸h _ F)
theorem axd{x:Int}(h:yp x=true):x=1\/x=2\/x=15\/x=16:=by unfold yp at h;simp at h;omega
theorem axc{x:Int}(h:yp x=false):(x==1)=false/\(x==2)=false/\(x==15)=false/\(x==16)=false:=by unfold yp at h;simp at h;simp;omega
theorem auh(ts:List Tk)(g n:Nat)(z:Value)(hl:ts.length<=1000)(U:nj ts g z n 6 326)(V:nj ts g z n 1 182):nj ts g z (n+1) 6 326:=by
 intro k y R v w d hk ho Y W;have HF:=aa U;have av:=aa V;have I:=aa Y;have F:=aa W;by_cases E:jt ts k=4
 . rw[aje n y E]at d;have Z:k<ts.length:=p6 (by omega);have HR:=aa d;have HC:=aa E;clear d Y W U V E;go_enter func326,ntmps326;go_wp2_with fail;refine(m8 ts g k z v _ y I F hk (by omega)).mono ?_;rintro e w1⟨rfl,a,rfl⟩;rw[HC.out];go_wp2_with fail;refine(wh ts g 326 n 6 k _ z v y R _ HF as0 Z hl ho (I.drewN a) (F.drewN a) HR).mono ?_;intro e w3 O;obtain⟨b,rfl⟩:=O.ret;have HP:=aa (O.after ((j0.refl g v w).drewN a));clear O;go_wp2;go_ret;exact HP
 . by_cases J:yp (jt ts k)=true
   . rw [ajd n y J] at d;injection d with d;subst d;have Z:k < ts.length:=ao0 J;have HX:=aa (rfl:jt ts k=jt ts k);have hx:=axd J;generalize hg:jt ts k=x at hx HX;have HG:=aa hg;have H4:(x == 4)=false:=(by rw [<- hg]; simpa using E);clear Y W U V E J hg;rcases hx with rfl | rfl | rfl | rfl;all_goals
      go_enter func326,ntmps326
      go_wp2_with fail
      refine(m8 ts g k z v _ y I F hk (by omega)).mono ?_
      rintro e w1⟨rfl,a,rfl⟩
      rw[HG.out]
      go_wp2_with fail
      refine(ars ts g k z v y _ Z hl ho (I.drewN a) (F.drewN a)).mono ?_
      rintro e w2⟨rfl,v1,al,am⟩
      have HK:=aa (((j0.refl g v w).drewN a).trans al)
      have ak:=aa am
      clear al am
      go_wp2
      go_ret
      rw[HG.out]at ak
      exact⟨rfl,_,HK,ak⟩
   . have ad:yp (jt ts k)=false:=(by simpa using J);by_cases Q:jt ts k=17
     . rw[agc n y Q]at d;have Z:k<ts.length:=p6 (by omega);have HR:=aa d;have HC:=aa Q;clear d Y W U V E J ad Q;go_enter func326,ntmps326;go_wp2_with fail;refine(m8 ts g k z v _ y I F hk (by omega)).mono ?_;rintro e w1⟨rfl,a,rfl⟩;rw[HC.out];go_wp2_with fail;refine(ap1 ts g n k z v y R _ hl av Z ho (I.drewN a) (F.drewN a) HR).mono ?_;intro e w3 O;obtain⟨b,rfl⟩:=O.ret;have HP:=aa (O.after ((j0.refl g v w).drewN a));clear O;go_wp2;go_ret;exact HP
     . rw[ajf n y E ad Q]at d;injection d with d;subst d;obtain⟨n1,n2,ax,a0⟩:=axc ad;have n4:(jt ts k==4)=false:=(by simpa using E);have a1:(jt ts k==17)=false:=(by simpa using Q);clear Y W U V E J ad Q;go_enter func326,ntmps326;go_wp2_with fail;refine(m8 ts g k z v _ y I F hk (by omega)).mono ?_;rintro e w1⟨rfl,a,rfl⟩;generalize jt ts k=x at *;go_wp2;go_ret;exact⟨rfl,_,_,(j0.refl g v w).drewN a,F.drewN a⟩
structure a92 (ts:List Tk) (g:Nat) (vin:Value) (n:Nat):Prop where
 r1:nj ts g vin n 1 182
 r2:nj ts g vin n 2 235
 r3:nj ts g vin n 3 270
 r4:nj ts g vin n 4 307
 r5:nj ts g vin n 5 323
 r6:nj ts g vin n 6 326
theorem tm(ts:List Tk)(g:Nat)(y:Value)(d F:Nat):nj ts g y 0 d F:=λk z R v w h=>by rw[rd]at h;cases h
theorem atu(ts:List Tk)(g:Nat)(d:Value)(y:ts.length<=1000):∀n,∀m,m<=n->a92 ts g d m
 | 0,m,F=>by
  obtain rfl:m=0:=by omega
  exact⟨tm _ _ _ _ _,tm _ _ _ _ _,tm _ _ _ _ _,tm _ _ _ _ _,tm _ _ _ _ _,tm _ _ _ _ _⟩
 | n+1,m,F=>by
  have z:=atu ts g d y n;by_cases h:m<=n
  . exact z m h
  . obtain rfl:m=n+1:=(by omega);have E:=z n (ai n);exact⟨a8e ts g n d y λm h=>(z m h).r2,a52 ts g n d y λm h=>(z m h).r3,a8m ts g n d y E.r3 E.r4,a7i ts g n d y λm h=>(z m h).r5,arn ts g n d y λm h=>(z m h).r6,auh ts g n d y E.r6 E.r1⟩
def ac5(ts:List Tk)(k:Nat):Bool:=decide (k=ts.length)
def a6a(ts:List Tk)(g:Nat)(z:Value)(R:wv)(v:Value)(w:ω)(e:Ending)(y:ω):Prop :=
 match R with
 | .ok k o=>e=.returned (.bool (ac5 ts k))/\∃d,j0 g v w y d/\RSt g z y k d o
 | .bad k=>e=.returned (.bool false)/\∃d o,j0 g v w y d/\RSt g z y k d o
theorem ayo(ts:List Tk)(g k:Nat)(E v:Value)(w:ω)(I:∀F,F=w.drew->Calls prog 182 #[φ g 0] F (l4 g E (.bad k) v w)) :
 Calls prog 126 #[φ g 0] w (a6a ts g E (.bad k) v w):=by
 have H:=aa I;go_enter func126,ntmps126;go_wp2_with fail;refine wp_region_any (by kernel_rfl) ?_;change wpAny _ _ _ _ _ _ _ (World.drew _);refine wpAny_take (i:=0) (v:=φ g 0) rfl (by kernel_rfl) (by kernel_rfl) (by kernel_rfl) (λ_ _ _ h=>h) (Or.inl ⟨by kernel_rfl,λw=>by go_simp⟩) ?_;simp only[Act.put,cy,en,eo,List.getElem_toArray,dj];refine wpAny_ready (rs:=[1]) (by kernel_rfl) (by simp) ?_;refine AllReady.cons rfl (λK d=>?_) AllReady.nil;go_simp;refine(H.out _ rfl).mono ?_;rintro e V⟨rfl,U,Q,y,z⟩;have J:=aa y;have O:=aa z;clear y z;go_simp;refine d _ _ ?_;clear d;refine wpAny_take (i:=2) (v:=.bool false) rfl (by kernel_rfl) (by kernel_rfl) (by kernel_rfl) (λ_ _ _ h=>h) (Or.inl ⟨by kernel_rfl,λw=>by go_simp⟩) ?_;simp only[Act.put,cy,en,eo,List.getElem_toArray,dj,dq];refine wpAny_take (i:=3) (v:=undef) rfl (by kernel_rfl) (by kernel_rfl) (by kernel_rfl) (λ_ _ _ h=>h) (Or.inr ⟨by kernel_rfl,rfl⟩) ?_;simp only[Act.put,cy,en,eo,List.getElem_toArray,dj,dq];refine wpAny_take (i:=4) (v:=undef) rfl (by kernel_rfl) (by kernel_rfl) (by kernel_rfl) (λ_ _ _ h=>h) (Or.inr ⟨by kernel_rfl,rfl⟩) ?_;simp only[Act.put,cy,en,eo,List.getElem_toArray,dj,dq];refine wpAny_take (i:=5) (v:=undef) rfl (by kernel_rfl) (by kernel_rfl) (by kernel_rfl) (λ_ _ _ h=>h) (Or.inr ⟨by kernel_rfl,rfl⟩) ?_;simp only[Act.put,cy,en,eo,List.getElem_toArray,dj,dq];refine wpAny_take (i:=6) (v:=undef) rfl (by kernel_rfl) (by kernel_rfl) (by kernel_rfl) (λ_ _ _ h=>h) (Or.inr ⟨by kernel_rfl,rfl⟩) ?_;simp only[Act.put,cy,en,eo,List.getElem_toArray,dj,dq];refine wpAny_take (i:=7) (v:=undef) rfl (by kernel_rfl) (by kernel_rfl) (by kernel_rfl) (λ_ _ _ h=>h) (Or.inr ⟨by kernel_rfl,rfl⟩) ?_;simp only[Act.put,cy,en,eo,List.getElem_toArray,dj,dq];refine wpAny_take (i:=8) (v:=undef) rfl (by kernel_rfl) (by kernel_rfl) (by kernel_rfl) (λ_ _ _ h=>h) (Or.inr ⟨by kernel_rfl,rfl⟩) ?_;simp only[Act.put,cy,en,eo,List.getElem_toArray,dj,dq];refine wpAny_take (i:=9) (v:=undef) rfl (by kernel_rfl) (by kernel_rfl) (by kernel_rfl) (λ_ _ _ h=>h) (Or.inr ⟨by kernel_rfl,rfl⟩) ?_;simp only[Act.put,cy,en,eo,List.getElem_toArray,dj,dq];refine wpAny_take (i:=10) (v:=undef) rfl (by kernel_rfl) (by kernel_rfl) (by kernel_rfl) (λ_ _ _ h=>h) (Or.inr ⟨by kernel_rfl,rfl⟩) ?_;simp only[Act.put,cy,en,eo,List.getElem_toArray,dj,dq];refine wpAny_take (i:=11) (v:=undef) rfl (by kernel_rfl) (by kernel_rfl) (by kernel_rfl) (λ_ _ _ h=>h) (Or.inr ⟨by kernel_rfl,rfl⟩) ?_;simp only[Act.put,cy,en,eo,List.getElem_toArray,dj,dq];refine wpAny_take (i:=12) (v:=undef) rfl (by kernel_rfl) (by kernel_rfl) (by kernel_rfl) (λ_ _ _ h=>h) (Or.inr ⟨by kernel_rfl,rfl⟩) ?_;simp only[Act.put,cy,en,eo,List.getElem_toArray,dj,dq];refine wpAny_take (i:=13) (v:=.bool false) rfl (by kernel_rfl) (by kernel_rfl) (by kernel_rfl) (λ_ _ _ h=>h) (Or.inl ⟨by kernel_rfl,λw=>by go_simp⟩) ?_;simp only[Act.put,cy,en,eo,List.getElem_toArray,dj,dq];refine wpAny_take (i:=14) (v:=.bool false) rfl (by kernel_rfl) (by kernel_rfl) (by kernel_rfl) (λ_ _ _ h=>h) (Or.inl ⟨by kernel_rfl,λw=>by go_simp⟩) ?_;simp only[Act.put,cy,en,eo,List.getElem_toArray,dj,dq];refine wpAny_done (by kernel_rfl) ?_ _;go_wp2;go_ret;exact⟨rfl,_,_,J,O⟩
theorem a1q(ts:List Tk)(g k cap:Nat)(A:Option Addr)(v:Value)(o:List Tk)(w:ω)(hk:k<=ts.length)(hl:ts.length<=1000)(F:∀E,E=w.drew->Calls prog 182 #[φ g 0] E (l4 g (.slice A ts.length cap) (.ok k o) v w)) :
 Calls prog 126 #[φ g 0] w (a6a ts g (.slice A ts.length cap) (.ok k o) v w):=by
 have H:=aa F;have W:(k==ts.length)=ac5 ts k:=by unfold ac5;rw[dh];simp
 have Y:((k:Int)==(ts.length:Int))=ac5 ts k:=by unfold ac5;rw[dh];simp;omega
 have Z:decide (k=ts.length)=ac5 ts k:=rfl;generalize z:ac5 ts k=q at *;have J:=aa z;clear z;go_enter func126,ntmps126;go_wp2_with fail;first
  | (go_region_with (go_at_call 182;refine (H.out _ rfl).mono ?_;rintro e w1⟨rfl,v1,y,d⟩;have I:=aa y;have O:=aa d;obtain ⟨⟨Q,U,V⟩,_⟩:=d.blk.ax;clear y d))
  | fail
 all_goals
  go_wp2
  go_ret
  exact⟨by rw[J.out];rfl,_,I,O⟩
end Go.Proofs.YtpekhdfmmkmjaaaGreatDoor
