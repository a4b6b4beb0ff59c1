/- Texts of the proof, put together. -/
import Derived.Laws.StructEq
import Derived.Laws.BitsLemmas
import Derived.Test.YtpekhdfmmkmjaaaGreatDoorG6
namespace Go.Proofs.YtpekhdfmmkmjaaaGreatDoor
set_option maxHeartbeats 4000000
set_option maxRecDepth 100000
set_option linter.unusedVariables false
open Go.Proofs.Tryz
open Go.ChangeShapes Go.WideShapes Go.ChangeAt Go.RowKit
theorem ay9(vs vt:Value)(C:Ch)(w:ω)(V:d8 w vs vt C)(Z:dw C.ab.length)(ad:dw C.ay.length) :
 Calls prog 41 #[.agg #[ι C.vars,vs,vt]] w λe y=>e=.returned (.bool (qo C))/\κ w y:=by
 have E:=aa (ap w (bu C.vars vs vt));unfold dw at Z ad;obtain⟨A,ak,rfl,am⟩:=br.slice V.1;obtain⟨A2,al,rfl,av⟩:=br.slice V.2;clear V;have W:qo C=qo C:=rfl;conv at W=>rhs;unfold qo
 generalize qo C=R at *;have F:=aa W;clear W;cases I:m9 C.vars 0 8 with
 | false =>have d:=aa I;clear I;go_enter func41,ntmps41;go_wp2_with fail;refine(dx _ _ _ _).mono ?_;rintro e y⟨rfl,rfl⟩;rw[d.out];go_wp2;go_ret;exact⟨az (by rw[F.out,d.out];rfl),E⟩
 | true =>
  have d:=aa I
  clear I
  cases J:m9 (C.ab.length:Int) 1 24 with
  | false =>
   have z:=aa J
   clear J
   go_enter func41,ntmps41
   go_wp2_with fail
   refine(dx _ _ _ _).mono ?_
   rintro e y⟨rfl,rfl⟩
   rw[d.out]
   go_wp2_with fail
   refine(dx _ _ _ _).mono ?_
   rintro e y⟨rfl,rfl⟩
   rw[z.out]
   go_wp2
   go_ret
   exact⟨az (by rw[F.out,d.out,z.out];rfl),E⟩
  | true =>
   have z:=aa J
   clear J
   by_cases O:C.ay.length<=40
   . have Y:decide ((C.ay.length:Int)<=40)=true:=by simp;omega
     have U:decide (C.ay.length<=40)=true:=by simpa using O
     have Q:Hid (R=true):=aa (by rw[F.out,d.out,z.out,U];rfl)
     clear O
     go_enter func41,ntmps41
     go_wp2_with fail
     refine(dx _ _ _ _).mono ?_
     rintro e y⟨rfl,rfl⟩
     rw[d.out]
     go_wp2_with fail
     refine(dx _ _ _ _).mono ?_
     rintro e y⟨rfl,rfl⟩
     rw[z.out]
     go_wp2
     go_ret
     exact⟨az Q.symm,E⟩
   . have Y:decide ((C.ay.length:Int)<=40)=false:=by simp;omega
     have U:decide (C.ay.length<=40)=false:=by simpa using O
     have Q:Hid (R=false):=aa (by rw[F.out,d.out,z.out,U];rfl)
     clear O
     go_enter func41,ntmps41
     go_wp2_with fail
     refine(dx _ _ _ _).mono ?_
     rintro e y⟨rfl,rfl⟩
     rw[d.out]
     go_wp2_with fail
     refine(dx _ _ _ _).mono ?_
     rintro e y⟨rfl,rfl⟩
     rw[z.out]
     go_wp2
     go_ret
     exact⟨az Q.symm,E⟩
def bcv(a:CA)(w:ω)(e:Ending)(d:ω):Prop :=
 κ w d/\match a with
  | .ok=>e=.returned .nilIface
  | .large=>e=.returned (.iface 93 (ι 3))
  | .spot k c=>∃g,e=.returned (.iface 95 (φ g 0))/\w.heap.size<=g/\cg d g 97 #[ι k,ι c]
theorem fx{C:Ch}(h:fewB C=true):C.ab.length<=40/\C.ay.length<=60/\(∀k,k<C.ab.length->p7 (C.ab.getD k pz)=true)/\(∀k,k<C.ay.length->qp (C.ay.getD k mt)=true):=by unfold fewB at h;simp only[bj,bi]at h;exact⟨h.1.1.1,h.1.1.2,zh h.1.2,zh h.2⟩
theorem ou{l:List Ac}(h:ly l=true):l.length<=20/\ua l:=by unfold ly at h;simp only[bj,bi]at h;refine⟨h.2,λi d=>?_⟩;have:=zh h.1 i d;simp only[bi]at this;omega
theorem aag{n k:Nat}(h:n<=k)(d:k<=1000):dw n:=by unfold dw;omega
theorem a0y{T:ByteArray->Int->Int->Bool}{C:Ch}(h:qo C=false):chk T C=.large:=by unfold chk;rw[ao h]
theorem bbt{T:ByteArray->Int->Int->Bool}{C:Ch}(h:qo C=true)(s:Nat)(z:s<C.ab.length)(d:∀j,j<s->stF T C.ab C.vars (j:Int)=0)(y:stF T C.ab C.vars (s:Int)≠0):chk T C=.spot s (stF T C.ab C.vars (s:Int)):=by unfold chk;rw[ah (by rw[h];simp),anv (f:=λs:Nat=>stF T C.ab C.vars (s:Int)) s z y d]
theorem bbs{T:ByteArray->Int->Int->Bool}{C:Ch}(h:qo C=true)(d:∀j,j<C.ab.length->stF T C.ab C.vars (j:Int)=0)(i:Nat)(E:i<C.ay.length)(y:∀j,j<i->trF T C.ab C.vars (C.ay.getD j mt)=0)(z:trF T C.ab C.vars (C.ay.getD i mt)≠0) :
 chk T C=.spot (C.ab.length+i) (trF T C.ab C.vars (C.ay.getD i mt)):=by
 unfold chk;rw[ah (by rw[h];simp),ad9 d];simp only;rw[anv (f:=λi=>trF T C.ab C.vars (C.ay.getD i mt)) i E z y]
theorem amy{k:Nat}{f:Nat->Int}(h:∀j,j<k->f j=0)(y:f k=0):∀j,j<k+1->f j=0:=λj z=>by
 by_cases d:j=k
 . rw[d];exact y
 . exact h j (by omega)
theorem a9j(vs vt:Value)(C:Ch)(w:ω)(hL:ju w)(V:d8 w vs vt C)(hF:fewB C=true):Calls prog 20 #[.agg #[ι C.vars,vs,vt]] w (bcv (chk eu C) w):=by
 obtain⟨f1,f2,f3,f4⟩:=fx hF;have hl:C.ab.length<=1000:=by omega
 have H0:=aa (λ(W:ω)(d:κ w W)=>ay9 vs vt C W (V.below d) (aag f1 (by omega)) (aag f2 (by omega)));have HC:=aa V;have b8:=aa (λ(hv:-1000<=C.vars)(bb:C.vars<=1000)(s:Nat)(hs:s<C.ab.length)(W:ω)(d:κ w W)=>by have h:=f3 s hs;unfold p7 at h;simp only[bj,bi]at h;obtain⟨e1,e2⟩:=ou h.1.1;obtain⟨O,Q⟩:=ou h.1.2;exact a7l s vs vt C W (hL.after d) (V.below d) hl hs hv bb (aag e1 (by omega)) e2 (aag O (by omega)) Q);have ca:=aa (λ(hv:-1000<=C.vars)(bb:C.vars<=1000)(i:Nat)(hi:i<C.ay.length)(wt wa:Value)(W:ω)(d:κ w W)(ht:wc w wt wa (C.ay.getD i mt))=>by have h:=f4 i hi;unfold qp at h;simp only[bj,bi]at h;obtain⟨e1,e2⟩:=ou h.1.1;exact a7f vs vt wt wa C (C.ay.getD i mt) W (hL.after d) (V.below d) hl hv bb (ht.below d) ⟨aag h.1.2 (by omega),aag e1 (by omega)⟩ (by omega) e2);obtain⟨A,bk,cl,ds⟩:=br.slice V.1;obtain⟨A2,bs,co,dy⟩:=br.slice V.2;subst cl;subst co;have c7:=aa f3;clear hL V f3 f4 hF;cases I:qo C with
 | false =>have HR:=aa (a0y (T:=eu) I);have HZ:=aa I;clear I;go_enter func20,ntmps20;go_wp2_with fail;refine(H0 _ (ap _ _)).mono ?_;rintro e w1⟨rfl,ad⟩;have a2:=aa (aj ad);rw[HZ.out];clear ad;go_wp2;go_ret;rw[HR.out];exact⟨a2,rfl⟩
 | true =>
  have a1:-1000<=C.vars/\C.vars<=1000:=by unfold qo at I;simp only[bj]at I;have:=mc.1 I.1.1;omega
  have b7:=aa (b8 a1.1 a1.2);have b9:=aa (ca a1.1 a1.2);have b4:=aa (bbt (T:=eu) I);have b5:=aa (bbs (T:=eu) I);have b1:=aa (bbu (T:=eu) I);have HZ:=aa I;clear I a1;generalize chk eu C=R at *;go_enter func20,ntmps20;go_wp2_with fail;refine(H0 _ (ap _ _)).mono ?_;rintro e w1⟨rfl,ad⟩;obtain⟨x0,O,Q⟩:=bc ad;have a2:=aa ad;rw[HZ.out];clear ad;go_wp2_with fail;go_loopw [15] (λi wr=>∃k:Nat,k<=C.ab.length/\i=ι (k:Int)/\Hid (∀j,j<k->stF eu C.ab C.vars (j:Int)=0)/\κ (w.alloc (bu C.vars (.slice A C.ab.length bk) (.slice A2 C.ay.length bs))) wr) (λi _=>C.ab.length-(intOf i).toNat)
  case atStart=>exact ⟨0,ar _,rfl,aa (λj hj=>by omega),a2⟩
  case round =>
   obtain⟨k,hk,rfl,J,d⟩:=hrel;obtain⟨wo,rfl⟩:∃wo:ω,wo=wr:=⟨_,rfl⟩;clear x0 O Q;obtain⟨x0,O,Q⟩:=bc d;by_cases ak:k<C.ab.length
   . have av:=b7.out k ak wo (aj d);have a0:=b4.out k ak J;have ax:=λh=>amy (f:=λj:Nat=>stF eu C.ab C.vars (j:Int)) J h;generalize stF eu C.ab C.vars (k:Int)=F at *;have am:=aa av;have a4:=aa a0;have a3:=aa ax;have Z:=aa d;clear av a0 ax d;by_cases y:F=0
     . have a9:(F != 0)=false:=(by simp[y]);have U:=aa y;clear y;go_wp2_with fail;refine am.mono ?_;rintro e Y⟨rfl,E⟩;have z:=aa (Z.trans (E.mono Z.size));clear E;go_wp2;go_roundw
       case rel=>exact ⟨k+1,by omega,by go_num,aa (a3 U),z⟩
       case measure=>simp[intOf];omega
     . have a9:(F != 0)=true:=(by simp[y]);have U:=aa y;clear y;go_wp2_with fail;refine am.mono ?_;rintro e Y⟨rfl,E⟩;have z:=aa (Z.trans (E.mono Z.size));clear E;go_wp2;go_ret;rw[a4.out U.out];exact⟨(aj z).alloc (aj z).size _,Y.heap.size,rfl,(aj z).size,cg.new Y 97 _⟩
   . obtain rfl:k=C.ab.length:=(by omega);have b2:=aa (b1 J);have b6:=aa (b5 J);have Z:=aa d;clear d;go_wp2_with fail;go_loopw [32] (λi wr=>∃k:Nat,k<=C.ay.length/\i=ι (k:Int)/\Hid (∀j,j<k->trF eu C.ab C.vars (C.ay.getD j mt)=0)/\κ (w.alloc (bu C.vars (.slice A C.ab.length bk) (.slice A2 C.ay.length bs))) wr) (λi _=>C.ay.length-(intOf i).toNat)
     case atStart=>exact ⟨0,ar _,rfl,aa (λj hj=>by omega),Z⟩
     case round =>
      obtain⟨k,hk,rfl,J,d⟩:=hrel;obtain⟨bf,rfl⟩:∃bf:ω,bf=wr:=⟨_,rfl⟩;clear x0 O Q;obtain⟨x0,O,Q⟩:=bc d;by_cases ak:k<C.ay.length
      . obtain⟨b,o,db,wt,wa,ci,_,cc,bt,ba⟩:=HC.tr ak;injection ci with e1 e2 e3;subst e1;obtain⟨c0,c1,c2,c3,c4,c5⟩:=bt.below (aj d) cc;have av:=λW d=>b9 k ak wt wa W d ba;have a0:=b6.out k ak J;have ax:=λh=>amy (f:=λj:Nat=>trF eu C.ab C.vars (C.ay.getD j mt)) J h;generalize C.ay.getD k mt=t at *;obtain⟨tA,cv,aA,cb,rfl,rfl⟩:=ba.slices;generalize trF eu C.ab C.vars t=F at *;have al:=aa (d.alloc d.size (mi t (.slice tA t.cj.length cv) (.slice aA t.acts.length cb)));have am:=aa (av _ (aj al));have a4:=aa a0;have a3:=aa ax;have d0:w.heap.size<bf.heap.size:=(by have:=d.size;simp at this;omega);clear av a0 ax d e2 e3 ba bt;by_cases y:F=0
        . have a9:(F != 0)=false:=(by simp[y]);have U:=aa y;clear y;go_wp2_with fail;refine am.mono ?_;rintro e Y⟨rfl,E⟩;have z:=aa (al.trans (E.mono al.size));clear E;go_wp2;go_roundw
          case rel=>exact ⟨k+1,by omega,by go_num,aa (a3 U),z⟩
          case measure=>simp[intOf];omega
        . have a9:(F != 0)=true:=(by simp[y]);have U:=aa y;clear y;go_wp2_with fail;refine am.mono ?_;rintro e Y⟨rfl,E⟩;have a5:=al.trans (E.mono al.size);clear x0 O Q;obtain⟨x0,O,Q⟩:=bc a5;have z:=aa a5;clear E a5;go_wp2;go_ret;rw[a4.out U.out];exact⟨(aj z).alloc (aj z).size _,Y.heap.size,rfl,(aj z).size,cg.new Y 97 _⟩
      . obtain rfl:k=C.ay.length:=(by omega);have b3:=aa (b2 J);have b0:=aa d;clear d;go_wp2;go_ret;rw[b3.out];exact⟨aj b0,rfl⟩
theorem d9{w:ω}{g t:Nat}{a b c d e:Value}(h:cg w g t #[a,b,c,d,e]):(w.cell? (δ g 0)=some a/\w.cell? (δ g 1)=some b/\w.cell? (δ g 2)=some c/\w.cell? (δ g 3)=some d/\w.cell? (δ g 4)=some e)/\w.frozen? (δ g 0)=false/\w.frozen? (δ g 1)=false/\w.frozen? (δ g 2)=false/\w.frozen? (δ g 3)=false/\w.frozen? (δ g 4)=false :=
 ⟨⟨h.cell 0,h.cell 1,h.cell 2,h.cell 3,h.cell 4⟩,h.frozen 0,h.frozen 1,h.frozen 2,h.frozen 3,h.frozen 4⟩
theorem afh{w:ω}{g t:Nat}{a b c d e f:Value}(h:cg w g t #[a,b,c,d,e,f]):(w.cell? (δ g 0)=some a/\w.cell? (δ g 1)=some b/\w.cell? (δ g 2)=some c/\w.cell? (δ g 3)=some d/\w.cell? (δ g 4)=some e/\w.cell? (δ g 5)=some f)/\w.frozen? (δ g 0)=false/\w.frozen? (δ g 1)=false/\w.frozen? (δ g 2)=false/\w.frozen? (δ g 3)=false/\w.frozen? (δ g 4)=false/\w.frozen? (δ g 5)=false :=
 ⟨⟨h.cell 0,h.cell 1,h.cell 2,h.cell 3,h.cell 4,h.cell 5⟩,h.frozen 0,h.frozen 1,h.frozen 2,h.frozen 3,h.frozen 4,h.frozen 5⟩
theorem axu{C:Ch}(h:fewB C=true){k:Nat}(d:k<C.ab.length):(C.ab.getD k pz).ip.length<=1000/\(C.ab.getD k pz).kv.length<=1000/\(C.ab.getD k pz).me.length<=1000:=by have:=(fx h).2.2.1 k d;unfold p7 at this;simp only[bj,bi]at this;have a:=(ou this.1.1).1;have b:=(ou this.1.2).1;omega
theorem a88{C:Ch}(h:fewB C=true){k:Nat}(d:k<C.ay.length):(C.ay.getD k mt).cj.length<=1000/\(C.ay.getD k mt).acts.length<=1000:=by have:=(fx h).2.2.2 k d;unfold qp at this;simp only[bj,bi]at this;have a:=(ou this.1.1).1;omega
def fs(w:ω)(g:Nat)(C:Ch):Prop:=∃vs d,cg w g 66 #[ι C.vars,vs,d]/\d8 w vs d C
theorem fs.below{w z:ω}{g:Nat}{C:Ch}(h:fs w g C)(y:κ w z):fs z g C:=by obtain ⟨vs,F,d,E⟩:=h;exact⟨vs,F,d.below y d.lt,E.below y⟩
def au2(S:List St)(s:Int):Int:=if c6 S s=true then (aq S s).par else -1
def kt(S:List St)(s:Int):Int:=if c6 S s=true then (aq S s).kind else 0
theorem apc(g:Nat)(s:Int)(C:Ch)(w:ω)(E:fs w g C)(O:C.ab.length<=1000) :
 Calls prog 121 #[φ g 0,ι s] w λe F=>e=.returned (.bool (c6 C.ab s))/\w=F:=by
 obtain⟨vs,Q,z,y⟩:=E;obtain⟨A,I,rfl,J⟩:=br.slice y.1;obtain⟨⟨U,V,W⟩,-⟩:=z.ax;clear z y;by_cases h:0<=s
 . have d:decide (0<=s)=true:=(by simpa using h);go_enter func121,ntmps121;go_wp2;go_ret;exact⟨az (by unfold c6;rw[d];rfl),rfl⟩
 . have d:decide (0<=s)=false:=(by simpa using h);go_enter func121,ntmps121;go_wp2;go_ret;exact⟨az (by unfold c6;rw[d];rfl),rfl⟩
theorem ae0(g:Nat)(s:Int)(C:Ch)(w:ω)(J:fs w g C)(Q:C.ab.length<=1000) :
 Calls prog 117 #[φ g 0,ι s] w λe U=>e=.returned (ι (au2 C.ab s))/\w=U:=by
 have I:=aa (apc g s C w J Q);obtain⟨vs,vt,y,F⟩:=J;have W:=aa y;cases h:c6 C.ab s with
 | false =>
  have z:=aa h;have d:au2 C.ab s=-1:=by unfold au2;rw[ah (by rw[h];simp)]
  have E:=aa d;clear h y F d;go_enter func117,ntmps117;go_wp2_with fail;refine I.mono ?_;rintro e V⟨rfl,rfl⟩;rw[z.out];go_wp2;go_ret;exact⟨cw E.symm,rfl⟩
 | true =>
  have z:=aa h;obtain⟨k,rfl,O⟩:=fq h;have d:au2 C.ab (k:Int)=(aq C.ab (k:Int)).par:=by unfold au2;rw[ao h]
  have E:=aa d;obtain⟨b,o,ad,vi,ve,vx,rfl,ak,al,⟨Y,Z,c2,c3,c4⟩,_⟩:=F.st O;obtain⟨⟨x0,x1,x2⟩,-⟩:=y.ax;clear h F y d;go_enter func117,ntmps117;go_wp2_with fail;refine I.mono ?_;rintro e V⟨rfl,rfl⟩;rw[z.out];go_wp2;go_ret;exact⟨cw E.symm,rfl⟩
theorem tu(g:Nat)(s:Int)(C:Ch)(w:ω)(J:fs w g C)(Q:C.ab.length<=1000) :
 Calls prog 122 #[φ g 0,ι s] w λe U=>e=.returned (ι (kt C.ab s))/\w=U:=by
 have I:=aa (apc g s C w J Q);obtain⟨vs,vt,y,F⟩:=J;have W:=aa y;cases h:c6 C.ab s with
 | false =>
  have z:=aa h;have d:kt C.ab s=0:=by unfold kt;rw[ah (by rw[h];simp)]
  have E:=aa d;clear h y F d;go_enter func122,ntmps122;go_wp2_with fail;refine I.mono ?_;rintro e V⟨rfl,rfl⟩;rw[z.out];go_wp2;go_ret;exact⟨cw E.symm,rfl⟩
 | true =>
  have z:=aa h;obtain⟨k,rfl,O⟩:=fq h;have d:kt C.ab (k:Int)=(aq C.ab (k:Int)).kind:=by unfold kt;rw[ao h]
  have E:=aa d;obtain⟨b,o,ad,vi,ve,vx,rfl,ak,al,⟨Y,Z,c2,c3,c4⟩,_⟩:=F.st O;obtain⟨⟨x0,x1,x2⟩,-⟩:=y.ax;clear h F y d;go_enter func122,ntmps122;go_wp2_with fail;refine I.mono ?_;rintro e V⟨rfl,rfl⟩;rw[z.out];go_wp2;go_ret;exact⟨cw E.symm,rfl⟩
theorem asb(g:Nat)(s:Int)(C:Ch)(w:ω)(y:fs w g C)(z:C.ab.length<=1000) :
 Calls prog 119 #[φ g 0,ι s] w λe E=>e=.returned (.bool (ct (kt C.ab s)))/\w=E:=by
 have d:=aa (tu g s C w y z);generalize kt C.ab s=K at *;clear y;by_cases h:K=5
 . subst h;go_enter func119,ntmps119;go_wp2_with fail;refine d.mono ?_;rintro e F⟨rfl,rfl⟩;go_wp2;go_ret;exact⟨rfl,rfl⟩
 . have I:(K==5)=false:=(by simpa using h);go_enter func119,ntmps119;go_wp2_with fail;refine d.mono ?_;rintro e F⟨rfl,rfl⟩;go_wp2;go_ret;exact⟨az (by unfold ct;simp[h];rfl),rfl⟩
def p8(S:List St):Prop:=∀s,au2 S s=lu S s
theorem aho{T:ByteArray->Int->Int->Bool}{C:Ch}(h:chk T C=.ok):p8 C.ab:=by
 intro s;unfold au2 lu;cases y:c6 C.ab s with
 | false=>simp
 | true =>
  obtain⟨k,rfl,F⟩:=fq y;simp only[if_true,true_and];by_cases z:k=0
  . subst z;have d:=aoh ((ahy h).2.1 0 F);unfold ahq at d;simp at d;have I:(aq C.ab ((0:Nat):Int)).par=-1:=d;rw[I];simp[m9]
  . have d:=aow h (k:Int) (by omega) (by omega);unfold lu at d;simp only[y,true_and]at d;split at d
    . rename_i E;rw[ao E]
    . omega
theorem adx(g:Nat)(a b:Int)(C:Ch)(w:ω)(O:fs w g C)(hl:C.ab.length<=1000)(d:p8 C.ab) :
 Calls prog 118 #[φ g 0,ι a,ι b] w λe w'=>e=.returned (.bool (jc C.ab a b))/\w=w':=by
 have E:=aa (λ(s:Int)=>ae0 g s C w O hl);have I:=aa d;have J:jc C.ab a b=inF C.ab (a.toNat+1) (lu C.ab a) b:=rfl;have ad:=adf C.ab a;have Q:=zx C.ab a;have ak:(lu C.ab a+1).toNat<=a.toNat+1:=by rcases Q with h | h<;>omega
 have Y:=aa (λq=>sj C.ab q);have W:=aa (λq=>adf C.ab q);generalize jc C.ab a b=R at *;have V:=aa J;clear J O Q d;go_enter func118,ntmps118;go_wp2_with fail;refine(E a).mono ?_;rintro e w1⟨rfl,rfl⟩;rw[I.out a];generalize lu C.ab a=u at *;go_wp2_with fail;go_loopw [7] (λp wr=>∃(n:Nat)(q:Int),-1<=q/\(q+1).toNat<=n/\p=ι q/\Hid (R=inF C.ab n q b)/\wr=w) (λp _=>(intOf p+1).toNat)
 case atStart=>exact ⟨a.toNat+1,u,ad,ak,rfl,V,rfl⟩
 case round =>
  obtain⟨n,q,am,hn,rfl,F,rfl⟩:=hrel;by_cases U:q=-1
  . have d:=F.out;have:inF C.ab n q b=false:=by
     cases n with
     | zero=>rfl
     | succ n=>rw[inF,ao (by omega)]
    rw[this]at d;have z:=aa d;subst U;clear d this;go_wp2;go_ret;exact⟨az z.symm,rfl⟩
  . obtain⟨m,rfl⟩:∃m,n=m+1:=⟨n-1,by omega⟩;have d:=F.out;rw[inF,ah (by omega)]at d;have av:(q != -1)=true:=(by simpa using U);by_cases y:q=b
    . rw[ao y]at d;have z:=aa d;have al:(q==b)=true:=(by simpa using y);clear d y;go_wp2;go_ret;exact⟨az z.symm,rfl⟩
    . rw[ah y]at d;have z:=aa d;have al:(q==b)=false:=(by simpa using y);have ax:=Y.out q (by omega);have Z:=W.out q;clear d y;go_wp2_with fail;refine(E q).mono ?_;rintro e w2⟨rfl,rfl⟩;rw[I.out q];generalize lu C.ab q=u2 at *;go_wp2;go_roundw
      case rel=>exact ⟨m,u2,Z,by omega,rfl,z,trivial⟩
      case measure=>simp[intOf];omega
def bset(P:Nat->Bool):Nat->Nat
 | 0=>0
 | n+1=>bset P n+if P n=true then 2^n else 0
theorem qj(P:Nat->Bool):∀n,bset P n<2^n
 | 0=>by simp[bset]
 | n+1=>by have:=qj P n;rw[bset,Nat.pow_succ];split<;>omega
theorem a9l(P:Nat->Bool)(n:Nat):bset P n ||| 2^n=bset P n+2^n:=by have:=Nat.two_pow_add_eq_or_of_lt (qj P n) 1;rw[bq]at this;rw[Nat.or_comm,<-this,Nat.add_comm]
theorem vj(P:Nat->Bool):∀(n k:Nat),k<n->bset P n / 2^k%2=if P k=true then 1 else 0
 | 0,k,h=>by omega
 | n+1,k,h=>by
  rw[bset];by_cases z:k<n
  . have y:=vj P n k z;split
    . rw[show 2^n=2^k*(2*2^(n-k-1)) by rw[<-Nat.pow_succ',<-Nat.pow_add];congr 1;omega,Nat.add_mul_div_left _ _ (vp (by decide)),Nat.add_mul_mod_self_left];exact y
    . rw[iy];exact y
  . obtain rfl:k=n:=(by omega);have d:=qj P k;split
    . rw[Nat.add_div_right _ (vp (by decide)),l6 d]
    . rw[iy,l6 d]
theorem ag0(k:Nat)(z:k<=31)(w:ω):Calls prog 120 #[ι (k:Int)] w λe E=>e=.returned (.int .u32 ((2^k:Nat):Int))/\w=E:=by
 have F:decide ((k:Int)<0)=false:=by simp
 go_enter func120,ntmps120;go_wp2;go_ret;refine⟨cw ?_,rfl⟩;have d:(2:Nat)^k<=2^31:=ic (by decide) z;have y:((2:Int)^k)=((2^k:Nat):Int):=by simp
 rw[show (2:Nat)^31=2147483648 by decide]at d;rw[y];generalize 2^k=m at *;omega
def gz(S:List St)(s:Int)(k:Nat):Bool:=jc S (k:Int) s&&!ct (aq S (k:Int)).kind
def belowN(S:List St)(s:Int):Nat:=bset (gz S s) S.length
theorem o4(n:Int)(y:0<=n)(d:n<2^32):IntKind.u32.wrap n=n:=by simp[IntKind.wrap,IntKind.bits,IntKind.signed]at d ⊢;omega
theorem axa(P:Nat->Bool)(k:Nat)(E:k<=31)(z:P k=true):bits .or .u32 ((bset P k:Nat):Int) ((2:Int)^k)=((bset P (k+1):Nat):Int):=by
 have d:2^k<2^32:=Nat.pow_lt_pow_right (by decide) (by omega);have y:((2:Int)^k)=((2^k:Nat):Int):=by simp
 rw[y,(bits_nat .u32 32 (by decide) o4 _ _ (Nat.lt_trans (qj P k) d) d).2,a9l,bset,z];rfl
theorem a02(g:Nat)(s:Int)(C:Ch)(w:ω)(U:fs w g C)(hl:C.ab.length<=31)(hR:p8 C.ab) :
 Calls prog 61 #[φ g 0,ι s] w λe w'=>e=.returned (.int .u32 ((belowN C.ab s:Nat):Int))/\w=w':=by
 have O:=aa (λ(a:Int)=>adx g a s C w U (by omega) hR);have Z:=aa (λ(a:Int)=>asb g a C w U (by omega));obtain⟨vs,vt,hX,hC⟩:=U;obtain⟨A,am,rfl,ax⟩:=br.slice hC.1;obtain⟨⟨x0,x1,x2⟩,-⟩:=hX.ax;clear hX hC;go_enter func61,ntmps61;go_wp2_with fail;go_loopw [5,13] (λv i wr=>∃k:Nat,k<=C.ab.length/\i=ι (k:Int)/\v=.int .u32 ((bset (gz C.ab s) k:Nat):Int)/\wr=w) (λ_ i _=>C.ab.length-(intOf i).toNat)
 case atStart=>exact ⟨0,ar _,rfl,rfl,rfl⟩
 case round =>
  obtain⟨k,hk,rfl,rfl,rfl⟩:=hrel;by_cases al:k<C.ab.length
  . have hP:gz C.ab s k=(jc C.ab (k:Int) s&&!ct (kt C.ab (k:Int))):=(by unfold gz kt;rw[ao (ll al)]);have av:=qj (gz C.ab s) k;have W:=axa (gz C.ab s) k (by omega);have V:gz C.ab s k=false->bset (gz C.ab s) (k+1)=bset (gz C.ab s) k:=λh=>by rw[bset,h];simp
    have E:∃Y,bset (gz C.ab s) (k+1)=Y:=⟨_,rfl⟩;obtain⟨Y,E⟩:=E;rw[E]at W V;have J:=aa E;clear E;generalize bset (gz C.ab s) k=B at *;generalize gz C.ab s k=P at *;have Q:=aa hP;have ak:=aa W;have ad:=aa V;clear hP W V;cases y:jc C.ab (k:Int) s with
    | false =>
     have d:=aa y;clear y;go_wp2_with fail;refine(O _).mono ?_;rintro e F⟨rfl,rfl⟩;rw[d.out];go_wp2;go_roundw
     case rel=>exact ⟨k+1,by omega,by go_num,by rw[J.out,ad.out (by rw[Q.out,d.out];rfl)],trivial⟩
     case measure=>simp[intOf];omega
    | true =>
     cases I:ct (kt C.ab (k:Int)) with
     | true =>
      have d:=aa y
      have z:=aa I
      clear y I
      go_wp2_with fail
      refine(O _).mono ?_
      rintro e F⟨rfl,rfl⟩
      rw[d.out]
      go_wp2_with fail
      refine(Z _).mono ?_
      rintro e F⟨rfl,rfl⟩
      rw[z.out]
      go_wp2
      go_roundw
      case rel=>exact ⟨k+1,by omega,by go_num,by rw[J.out,ad.out (by rw[Q.out,d.out,z.out];rfl)],trivial⟩
      case measure=>simp[intOf];omega
     | false =>
      have d:=aa y
      have z:=aa I
      clear y I
      go_wp2_with fail
      refine(O _).mono ?_
      rintro e F⟨rfl,rfl⟩
      rw[d.out]
      go_wp2_with fail
      refine(Z _).mono ?_
      rintro e F⟨rfl,rfl⟩
      rw[z.out]
      go_wp2_with fail
      refine(ag0 k (by omega) _).mono ?_
      rintro e F⟨rfl,rfl⟩
      go_wp2
      go_roundw
      case rel=>exact ⟨k+1,by omega,by go_num,by rw[J.out,<-ak.out (by rw[Q.out,d.out,z.out];rfl)],trivial⟩
      case measure=>simp[intOf];omega
  . obtain rfl:k=C.ab.length:=(by omega);go_wp2;go_ret;exact⟨rfl,rfl⟩
theorem m0(n k:Nat)(I:n<2^32)(O:k<=1000)(w:ω):Calls prog 105 #[.int .u32 (n:Int),ι (k:Int)] w λe J=>e=.returned (.bool (decide (n / 2^k%2=1)))/\w=J:=by
 go_enter func105,ntmps105;go_wp2_with fail;go_loopw [0,5] (λv i wr=>∃q:Nat,q<=k/\i=ι (q:Int)/\v=.int .u32 ((n / 2^q:Nat):Int)/\wr=w) (λ_ i _=>k-(intOf i).toNat)
 case atStart=>exact ⟨0,ar _,rfl,by simp,rfl⟩
 case round =>
  obtain⟨q,U,rfl,rfl,rfl⟩:=hrel;have F:n / 2^q<4294967296:=Nat.lt_of_le_of_lt (Nat.div_le_self _ _) I;have y:n / 2^q / 2=n / 2^(q+1):=by rw[Nat.div_div_eq_div_mul,Nat.pow_succ]
  have d:∃m,m=n / 2^q:=⟨_,rfl⟩;obtain⟨m,d⟩:=d;rw[<-d]at F y ⊢;have E:=aa y;have z:=aa d;clear y d;by_cases Q:q<k
  . go_wp2;go_roundw
    case rel=>exact ⟨q+1,by omega,by go_num,by rw[<-E.out];simp,trivial⟩
    case measure=>simp[intOf];omega
  . obtain rfl:q=k:=(by omega);go_wp2;go_ret;exact⟨az (by rw[<-z.out,dh];simp;omega),rfl⟩
theorem acs(z:Int)(vs vt:Value)(C:Ch)(k:Nat)(w:ω)(y:d8 w vs vt C)(Z:C.ab.length<=1000)(E:k<C.ab.length) :
 Calls prog 168 #[.agg #[ι z,vs,vt],ι (k:Int)] w λe F=>e=.returned (.bool (ct (aq C.ab (k:Int)).kind))/\κ w F:=by
 have d:=aa (ap w (bu z vs vt));obtain⟨b,o,V,vi,ve,vx,rfl,Y,ad,⟨I,J,O,Q,U⟩,_⟩:=y.st E;clear y;generalize (aq C.ab (k:Int)).kind=K at *;by_cases h:K=5
 . subst h;go_enter func168,ntmps168;go_wp2_with fail;try go_quiet (fail)
   try go_wp2
   go_ret;exact⟨rfl,d⟩
 . have W:(K==5)=false:=(by simpa using h);go_enter func168,ntmps168;go_wp2_with fail;try go_quiet (fail)
   try go_wp2
   go_ret;exact⟨az (by unfold ct;simp[h];rfl),d⟩
theorem a1b(g:Nat)(s:Int)(v:Value)(L:List Int)(C:Ch)(w:ω)(O:fs w g C)(hl:C.ab.length<=1000)(J:p8 C.ab)(hv:dd w v L)(hL:dw L.length) :
 Calls prog 274 #[φ g 0,v,ι s] w λe w'=>e=.returned (.bool (wu L.length λi=>jc C.ab (L.getD i 0) s))/\w=w':=by
 have E:=aa (λ(a:Int)=>adx g a s C w O hl J);obtain⟨A,al,rfl,av,U⟩:=hv;unfold dw at hL;have Z:=aa U;have Y:=aa (λi d h=>oa (n:=L.length) (f:=λi=>jc C.ab (L.getD i 0) s) i d h);have ad:=aa (λh=>nh (n:=L.length) (f:=λi=>jc C.ab (L.getD i 0) s) h);generalize (wu L.length λi=>jc C.ab (L.getD i 0) s)=R at *;clear U O J;go_enter func274,ntmps274;go_wp2_with fail;go_loopw [11] (λi wr=>∃k:Nat,k<=L.length/\i=ι (k:Int)/\Hid (∀j,j<k->jc C.ab (L.getD j 0) s=true)/\wr=w) (λi _=>L.length-(intOf i).toNat)
 case atStart=>exact ⟨0,ar _,rfl,aa (λj V=>absurd V (Nat.not_lt_zero _)),rfl⟩
 case round =>
  obtain⟨k,hk,rfl,F,rfl⟩:=hrel;by_cases z:k<L.length
  . obtain⟨b,o,rfl,am,Q⟩:=Z.out k _ (ae z);have c0:wr.cell? (δ b (o+k))=some (ι L[k]):=(by have:=Q;unfold d7 at this;rwa [bq]at this);have W:L.getD k 0=L[k]:=(by simp[List.getD,ae z]);have I:=aa W;generalize L[k]=x at *;clear Q W;cases d:jc C.ab x s with
    | false =>have y:=aa d;clear d;go_wp2_with fail;refine(E _).mono ?_;rintro e w1⟨rfl,rfl⟩;rw[y.out];go_wp2;go_ret;exact⟨az (Y k z (by rw[I.out];exact y)).symm,rfl⟩
    | true =>
     have y:=aa d;clear d;go_wp2_with fail;refine(E _).mono ?_;rintro e w1⟨rfl,rfl⟩;rw[y.out];go_wp2;go_roundw
     case rel=>exact ⟨k+1,by omega,by go_num,aa (λj V=>by
      by_cases ak:j=k
      . subst ak;rw[I.out];exact y
      . exact F j (by omega)),trivial⟩
     case measure=>simp[intOf];omega
  . obtain rfl:k=L.length:=(by omega);go_wp2;go_ret;exact⟨az (ad F).symm,rfl⟩
def jnF(S:List St)(L:List Int):Nat->Int->Int
 | 0,_=>-1
 | n+1,p=>if p<0 then -1 else if (aq S p).kind=2/\(wu L.length λi=>jc S (L.getD i 0) p)=true then p else jnF S L n (lu S p)
def jnT(S:List St)(L:List Int):Int:=if L.length=0 then -1 else jnF S L ((L.getD 0 0).toNat+1) (lu S (L.getD 0 0))
theorem ar8(S:List St)(L:List Int):∀(n:Nat)(p:Int),p<(S.length:Int)->0<=jnF S L n p->c6 S (jnF S L n p)=true/\(aq S (jnF S L n p)).kind=2/\∀i,i<L.length->jc S (L.getD i 0) (jnF S L n p)=true
 | 0,p,_,h=>by simp[jnF]at h
 | n+1,p,E,h=>by
  rw[jnF]at h ⊢;by_cases y:p<0
  . rw[ao y]at h;omega
  . rw[ah y]at h ⊢;by_cases d:(aq S p).kind=2/\(wu L.length λi=>jc S (L.getD i 0) p)=true
    . rw[ao d]at h ⊢;exact⟨by unfold c6;simp;omega,d.1,λi z=>zh d.2 i z⟩
    . rw[ah d]at h ⊢;exact ar8 S L n _ (alr S p) h
theorem a4f(S:List St)(L:List Int)(h:0<=jnT S L):c6 S (jnT S L)=true/\(aq S (jnT S L)).kind=2/\∀i,i<L.length->jc S (L.getD i 0) (jnT S L)=true:=by
 unfold jnT at h ⊢;by_cases d:L.length=0
 . rw[ao d]at h;omega
 . rw[ah d]at h ⊢;exact ar8 S L _ _ (alr S _) h
theorem a4e(g:Nat)(v:Value)(L:List Int)(C:Ch)(w:ω)(I:fs w g C)(W:C.ab.length<=1000)(d:p8 C.ab)(hv:dd w v L)(hL:dw L.length) :
 Calls prog 254 #[φ g 0,v] w λe w'=>e=.returned (ι (jnT C.ab L))/\w=w':=by
 have U:=aa (λ(a:Int)=>ae0 g a C w I W);have O:=aa (λ(a:Int)=>tu g a C w I W);have ad:=aa (λ(s:Int)=>a1b g s v L C w I W d hv hL);have V:=aa d;obtain⟨A,ba,rfl,bf,he⟩:=hv;unfold dw at hL;have HE:=aa he;clear he I d;by_cases Y:L.length=0
 . have d:jnT C.ab L=-1:=(by unfold jnT;rw[ao Y]);have y:=aa d;rw[Y]at *;clear d;go_enter func254,ntmps254;go_wp2;go_ret;exact⟨cw y.symm,rfl⟩
 . have d:jnT C.ab L=jnF C.ab L ((L.getD 0 0).toNat+1) (lu C.ab (L.getD 0 0)):=(by unfold jnT;rw[ah Y]);have b1:((L.length:Int)==0)=false:=fw (by omega);obtain⟨b,o,rfl,bb,hc⟩:=HE.out 0 _ (ae (by omega));have hx:L.getD 0 0=L[0]'(by omega):=(by simp[List.getD,ae (show 0<L.length by omega)]);have c0:w.cell? (δ b o)=some (ι (L.getD 0 0)):=(by rw[hx];have:=hc;unfold d7 at this;rwa [Nat.zero_mul,iy]at this);generalize L.getD 0 0=x at *;have am:=adf C.ab x;have ax:=zx C.ab x;have a0:=alr C.ab x;have a1:(lu C.ab x+1).toNat<=x.toNat+1:=(by rcases ax with h | h<;>omega);have a4:=aa (λq=>sj C.ab q);have a2:=aa (λq=>adf C.ab q);have a3:=aa (λq=>alr C.ab q);generalize jnT C.ab L=R at *;have H0:=aa d;clear hc hx d ax;go_enter func254,ntmps254;go_wp2_with fail;refine(U x).mono ?_;rintro e w1⟨rfl,rfl⟩;rw[V.out x];generalize lu C.ab x=u at *;clear c0;go_wp2_with fail;go_loopw [5] (λp wr=>∃(n:Nat)(q:Int),-1<=q/\q<(C.ab.length:Int)/\(q+1).toNat<=n/\p=ι q/\Hid (R=jnF C.ab L n q)/\wr=w) (λp _=>(intOf p+1).toNat)
   case atStart=>exact ⟨x.toNat+1,u,am,a0,a1,rfl,H0,rfl⟩
   case round =>
    clear am a0 a1;obtain⟨n,q,bk,bt,hn,rfl,HR,rfl⟩:=hrel;by_cases hq:q=-1
    . have d:=HR.out;have:jnF C.ab L n q=-1:=by
       cases n with
       | zero=>rfl
       | succ n=>rw[jnF,ao (by omega)]
      rw[this]at d;have y:=aa d;subst hq;clear d this;go_wp2;go_ret;exact⟨cw y.symm,rfl⟩
    . obtain⟨m,rfl⟩:∃m,n=m+1:=⟨n-1,by omega⟩;have d:=HR.out;rw[jnF,ah (by omega)]at d;have bs:(q != -1)=true:=(by simpa using hq);have b0:=a4.out q (by omega);have al:=a2.out q;have av:=a3.out q;have hk:kt C.ab q=(aq C.ab q).kind:=(by unfold kt;rw[ao (by unfold c6;simp;omega)]);have Q:=aa hk;have ak:=aa (λh=>d.trans (ah h));have a5:=aa (λh=>d.trans (ao h));generalize (aq C.ab q).kind=K at *;clear hk d;by_cases z:K=2
      . have a9:(K==2)=true:=(by simpa using z);cases E:(wu L.length λi=>jc C.ab (L.getD i 0) q) with
        | true =>have J:=aa E;have y:=aa (a5 ⟨z,E⟩);clear E z;go_wp2_with fail;refine(O q).mono ?_;rintro e F⟨rfl,rfl⟩;rw[Q.out];go_wp2_with fail;refine(ad q).mono ?_;rintro e F⟨rfl,rfl⟩;rw[J.out];go_wp2;go_ret;exact⟨cw y.symm,rfl⟩
        | false =>
         have J:=aa E;have y:=aa (ak (λh=>by rw[E]at h;exact absurd h.2 (by simp)));clear E z;go_wp2_with fail;refine(O q).mono ?_;rintro e F⟨rfl,rfl⟩;rw[Q.out];go_wp2_with fail;refine(ad q).mono ?_;rintro e F⟨rfl,rfl⟩;rw[J.out];go_wp2_with fail;refine(U q).mono ?_;rintro e F⟨rfl,rfl⟩;rw[V.out q];generalize lu C.ab q=Z at *;go_wp2;go_roundw
         case rel=>exact ⟨m,Z,al,av,by omega,rfl,y,trivial⟩
         case measure=>simp[intOf];omega
      . have a9:(K==2)=false:=(by simpa using z);have y:=aa (ak (λh=>z h.1));clear z;go_wp2_with fail;refine(O q).mono ?_;rintro e F⟨rfl,rfl⟩;rw[Q.out];go_wp2_with fail;refine(U q).mono ?_;rintro e F⟨rfl,rfl⟩;rw[V.out q];generalize lu C.ab q=Z at *;go_wp2;go_roundw
        case rel=>exact ⟨m,Z,al,av,by omega,rfl,y,trivial⟩
        case measure=>simp[intOf];omega
theorem th.lower{B B':Nat}{w:ω}{vs vt:Value}{C:Ch}(h:th B w vs vt C)(d:B'<=B):th B' w vs vt C:=by obtain ⟨J,O,F,I,z,E⟩:=h;exact⟨J,O,F,I,⟨z.1.lower d,λr y=>⟨cu.lower (z.2 r y).1 d,cu.lower (z.2 r y).2.1 d,cu.lower (z.2 r y).2.2 d⟩⟩,E.1.lower d,λr y=>⟨cu.lower (E.2 r y).1 d,cu.lower (E.2 r y).2 d⟩⟩
theorem th.apart{B g:Nat}{w:ω}{vs vt:Value}{C:Ch}{t:Nat}{cs:Array Value}(h:th B w vs vt C)(d:cg w g t cs)(z:3≠t)(E:92≠t)(J:59≠t)(O:62≠t)(j:Nat)(u:Value):th B (w.setCell (δ g j) u) vs vt C:=by obtain ⟨V,W,Q,U,F,I⟩:=h;exact⟨V,W,Q,U,⟨F.1.apart d J j u,λr y=>(F.2 r y).apart d z E j u⟩,I.1.apart d O j u,λr y=>(I.2 r y).apart d z E j u⟩
theorem d8.slices{w:ω}{vs vt:Value}{C:Ch}(h:d8 w vs vt C):∃(d:Option Addr)(y:Nat)(z:Option Addr)(E:Nat),vs=.slice d C.ab.length y/\vt=.slice z C.ay.length E:=by obtain ⟨d,y,F,_⟩:=br.slice h.1;obtain⟨z,E,I,_⟩:=br.slice h.2;exact⟨d,y,z,E,F,I⟩
theorem alj(vs vt:Value)(C:Ch)(w:ω)(z:d8 w vs vt C)(d:fewB C=true):Calls prog 21 #[.agg #[ι C.vars,vs,vt]] w (awr C w):=by obtain ⟨E,F,_⟩:=fx d;exact av9 vs vt C w z (by omega) (by omega) (λk y=>axu d y) (λk y=>a88 d y)
theorem yv(g:Nat)(C:Ch)(w:ω)(Z:fs w g C)(Y:fewB C=true):Calls prog 58 #[φ g 0] w (awr C w):=by
 obtain⟨vs,vt,z,y⟩:=Z;obtain⟨sA,am,tA,av,rfl,rfl⟩:=y.slices;have ak:=z.lt;obtain⟨⟨x0,x1,x2⟩,-⟩:=(z.alloc (bu 0 (.slice none 0 0) (.slice none 0 0))).ax;have I:=aa (cg.new w 25 #[ι 0,.slice none 0 0,.slice none 0 0]);have V:=aa (alj _ _ C _ (y.below (ap w (bu 0 (.slice none 0 0) (.slice none 0 0)))) Y);have al:¬g=w.heap.size:=by omega
 clear z y;go_enter func58,ntmps58;go_wp2_with fail;refine V.mono ?_;rintro e w1⟨E,us,ut,rfl,F⟩;obtain⟨O,Q,rA,ad,rfl,rfl⟩:=F.has.slices;have d:=aa (I.below E I.lt);have U:=aa (aj E);have W:=aa (F.lower (B':=w.heap.size) (by simp));obtain⟨⟨y0,y1,y2⟩,z0,z1,z2⟩:=d.ax;clear E F x0 x1 x2;go_wp2_with fail;refine bodyPost_ret (l2 rfl _ _ _ rfl (axi (((d.ca 0 _).ca 1 _).ca 2 _))) rfl ?_;have J:=d.ca 0 (ι C.vars);have q2:=J.ca 1 (.slice O C.ab.length Q);exact⟨((U.setCell (p:=⟨w.heap.size,0,none⟩) (ai _) _).setCell (p:=⟨w.heap.size,1,none⟩) (ai _) _).setCell (p:=⟨w.heap.size,2,none⟩) (ai _) _,_,_,rfl,
  ((W.apart d (by decide) (by decide) (by decide) (by decide) 0 (ι C.vars)).apart J (by decide) (by decide) (by decide) (by decide) 1 (.slice O C.ab.length Q)).apart q2 (by decide) (by decide) (by decide) (by decide) 2 (.slice rA C.ay.length ad)⟩
def bcs(C:Ch)(w:ω)(e:Ending)(d:ω):Prop :=
 κ w d/\match chk eu C with
  | .ok=>∃g,e=.returned (.tuple #[φ g 0,.nilIface])/\w.heap.size<=g/\fs d g C
  | .large=>e=.returned (.tuple #[.pointer none,.iface 93 (ι 3)])
  | .spot k c=>∃g,e=.returned (.tuple #[.pointer none,.iface 95 (φ g 0)])/\w.heap.size<=g/\cg d g 97 #[ι k,ι c]
theorem axf(vs vt:Value)(C:Ch)(w:ω)(hL:ju w)(J:d8 w vs vt C)(Z:fewB C=true):Calls prog 8 #[.agg #[ι C.vars,vs,vt]] w (bcs C w):=by
 obtain⟨sA,av,tA,ax,rfl,rfl⟩:=J.slices;have Y:=aa (ap w (bu C.vars (.slice sA C.ab.length av) (.slice tA C.ay.length ax)));have E:=aa (a9j _ _ C _ (hL.after Y) (J.below Y) Z);have HC:=aa J;have a1:=l3;have a0:=λp W=>pq p W;have a2:=λp W=>pn p W;clear hL J;cases y:chk eu C with
 | ok =>have F:=aa y;rw[y]at E;clear y;go_enter func8,ntmps8;go_wp2_with fail;refine E.mono ?_;rintro e w1⟨d,I⟩;have Q:e=.returned .nilIface:=I;subst Q;obtain⟨x0,x1,x2⟩:=bc d;have z:=aa (aj d);clear d I;go_wp2_with fail;refine(alj _ _ C _ (HC.below z) Z).mono ?_;rintro e V⟨ad,us,ut,rfl,U⟩;obtain⟨uA,a4,rA,a3,rfl,rfl⟩:=U.has.slices;have O:=aa (z.trans (ad.mono z.size));have ak:=aa U;clear ad U x0 x1 x2;go_wp2;go_ret2;refine⟨O.alloc O.size _,?_⟩;rw[F.out];exact⟨V.heap.size,rfl,O.size,_,_,cg.new V 66 _,ak.has.below (ap V _)⟩
 | large =>have F:=aa y;rw[y]at E;clear y;go_enter func8,ntmps8;go_wp2_with fail;refine E.mono ?_;rintro e w1⟨d,I⟩;have Q:e=.returned (.iface 93 (ι 3)):=I;subst Q;have z:=aa (aj d);clear d I;go_wp2;go_ret2;refine⟨z,?_⟩;rw[F.out];exact rfl
 | spot k c =>
  have F:=aa y;rw[y]at E;clear y;go_enter func8,ntmps8;go_wp2_with fail;refine E.mono ?_;rintro e w1⟨d,g,rfl,hg,hG⟩;have z:=aa (aj d);have HG:=aa hG;have am:w.heap.size+1<=g:=by simpa using hg
  have al:w.heap.size<=g:=by omega
  clear hg am;clear d hG;go_wp2;go_ret2;refine⟨z,?_⟩;rw[F.out];exact⟨g,rfl,al,HG⟩
def atx(w:ω)(b o:Nat)(x:Nat):Prop:=w.cell? (δ b o)=some (.int .u32 (x:Int))/\x<4294967296
theorem atx.keeps:ai2 atx:=λw z b o x d y h=>⟨(d.cell (p:=(δ b o)) y).trans h.1,h.2⟩
def km(w:ω)(v:Value)(H:List Nat):Prop:=br 1 atx w v H
theorem km.below{w d:ω}{v:Value}{H:List Nat}(h:km w v H)(y:κ w d):km d v H:=br.below atx.keeps h y
abbrev aee(vs d:Value):Obj:=.cells #[vs,d] 193
theorem qf(k:Nat)(z:k<=31)(w:ω):Calls prog 219 #[ι (k:Int)] w λe E=>e=.returned (.int .u32 ((2^k:Nat):Int))/\w=E:=by
 have F:decide ((k:Int)<0)=false:=by simp
 go_enter func219,ntmps219;go_wp2;go_ret;refine⟨cw ?_,rfl⟩;have d:(2:Nat)^k<=2^31:=ic (by decide) z;have y:((2:Int)^k)=((2^k:Nat):Int):=by simp
 rw[show (2:Nat)^31=2147483648 by decide]at d;rw[y];generalize 2^k=m at *;omega
theorem uz(K:Int)(w:ω):Calls prog 220 #[ι K] w λe d=>e=.returned (.bool (ct K))/\w=d:=by
 by_cases h:K=5
 . subst h;go_enter func220,ntmps220;go_wp2;go_ret;exact⟨rfl,rfl⟩
 . have y:(K==5)=false:=(by simpa using h);go_enter func220,ntmps220;go_wp2;go_ret;exact⟨az (by unfold ct;simp[h];rfl),rfl⟩
theorem ago(vs E:Value)(S:List St)(s:Int)(w:ω)(z:te w vs S)(O:S.length<=1000) :
 Calls prog 218 #[.agg #[vs,E],ι s] w λe I=>e=.returned (.bool (c6 S s))/\κ w I:=by
 obtain⟨A,F,rfl,J⟩:=br.slice z;have y:=aa (ap w (aee (.slice A S.length F) E));clear z;by_cases h:0<=s
 . have d:decide (0<=s)=true:=(by simpa using h);go_enter func218,ntmps218;go_wp2;go_ret;exact⟨az (by unfold c6;rw[d];rfl),y⟩
 . have d:decide (0<=s)=false:=(by simpa using h);go_enter func218,ntmps218;go_wp2;go_ret;exact⟨az (by unfold c6;rw[d];rfl),y⟩
theorem ajw(n k:Nat)(F:n<4294967296)(I:k<=31):bits .and .u32 (n:Int) ((2:Int)^k)=if cm n k=true then ((2:Int)^k) else 0:=by
 have y:2^k<2^32:=Nat.pow_lt_pow_right (by decide) (by omega);have z:((2:Int)^k)=((2^k:Nat):Int):=by simp
 have E:n &&& 2^k=if cm n k=true then 2^k else 0:=by
  refine ie λi=>?_;rw[qk,Nat.testBit_two_pow];unfold cm;rw[<-Nat.testBit_eq_decide_div_mod_eq];by_cases d:k=i
  . subst d;cases n.testBit k<;>simp
  . cases n.testBit k<;>simp[d]
 rw[z,(bits_nat .u32 32 (by decide) o4 _ _ F y).1,E];split<;>rfl
def qx(P:Nat->Bool)(k:Nat):List Int:=((List.range k).filter P).map λj:Nat=>(j:Int)
theorem abh(P:Nat->Bool)(k:Nat):qx P (k+1)=qx P k++if P k=true then [(k:Int)] else []:=by
 unfold qx;rw[mm,oe,ik];by_cases h:P k=true
 . simp[h]
 . simp[h]
theorem ads(P:Nat->Bool)(k:Nat):(qx P k).length<=k:=by unfold qx;rw[dm];simpa using kj P (List.range k)
theorem ail(vs vh:Value)(S:List St)(n:Nat)(w:ω)(U:te w vs S)(hl:S.length<=31)(hn:n<4294967296) :
 Calls prog 263 #[.agg #[vs,vh],.int .u32 (n:Int)] w (ab0 (agk S (cm n)) w):=by
 obtain⟨i0,W,Z,ad,ak⟩:=info_parts Tryz.info3;have HI:=aa W;have av:=aa Z;have ax:=aa ad;have a0:=aa ak;clear W Z ad ak;obtain⟨A,a1,rfl,a4⟩:=br.slice U;have HM:=aa (show agk S (cm n)=qx (cm n) S.length from rfl);have al:=aa (ads (cm n));clear U;go_enter func263,ntmps263;go_wp2_with fail;go_loopw [5,10] (λv i wr=>∃(k:Nat),k<=S.length/\i=ι (k:Int)/\κ (w.alloc (aee (.slice A S.length a1) vh)) wr/\Hid (wr.ownsRow (w.heap.size+1) 3 1 v (qx (cm n) k).length (bg (qx (cm n) k)))) (λ_ i _=>S.length-(intOf i).toNat)
 case atStart=>exact ⟨0,ar _,rfl,ag _ _,aa (bd _ _ _ _)⟩
 case round =>
  obtain⟨k,hk,rfl,z,E⟩:=hrel;obtain⟨F,rfl⟩:∃F:ω,F=wr:=⟨_,rfl⟩;by_cases a9:k<S.length
  . have d:=ajw n k hn (by omega);have Q:=aa (abh (cm n) k);have a5:=al.out k;have I:=aa z;have a3:w.heap.size+1<=F.heap.size:=(by have:=z.size;simpa using this);have O:¬((2:Int)^k=0):=(by have h2:((2:Int)^k)=((2^k:Nat):Int):=(by simp);rw[h2];have:=vp (n:=k) (show 0<2 by decide);omega);clear z;cases y:cm n k with
    | true =>
     rw[y,ao rfl]at d;have a2:(bits .and .u32 (n:Int) ((2:Int)^k) != 0)=true:=(by rw[d];exact bne_iff_ne.2 O);have J:=aa y;clear d y O;go_wp2_with fail;refine(qf k (by omega) _).mono ?_;rintro e w1⟨rfl,rfl⟩;go_wp2_with (at_builtin;refine wpList_append_own_at _ rfl _ _ 36 rfl (w.heap.size+1) 3 i0 (ι 0) 1 8 underlying36 HI av ax a0 rfl (by decide) _ _ _ rfl (E.out.alloc _) (δ F.heap.size 0) 1 1 [ι (k:Int)] rfl rfl ?c1 ?c2 ?c3 ?c4 ?c5 ?_)
     case c1=>exact g8 _ _ _ _ (by simp)
     case c2=>exact fl _
     case c3=>unfold maxLen;omega
     case c4=>omega
     case c5=>simp;omega
     intro v' w2 Y V _ _;have HG:=aa (ck (I.alloc I.size _) V (by simp;omega) (λg hg=>by have:=(E.out.lt g hg).1;simpa using this));have am:=aa Y;clear Y V;go_wp2;go_roundw
     case rel=>exact ⟨k+1,by omega,by go_num,HG,aa (by rw[Q.out,ao J.out,dp];simpa using am.out)⟩
     case measure=>simp[intOf];omega
    | false =>
     rw[y,ah (by simp)]at d;have a2:(bits .and .u32 (n:Int) ((2:Int)^k) != 0)=false:=(by rw[d];simp);have J:=aa y;clear d y O;go_wp2_with fail;refine(qf k (by omega) _).mono ?_;rintro e w1⟨rfl,rfl⟩;go_wp2;go_roundw
     case rel=>exact ⟨k+1,by omega,by go_num,I,aa (by rw[Q.out,ah (by rw[J.out];simp),dz];exact E.out)⟩
     case measure=>simp[intOf];omega
  . obtain rfl:k=S.length:=(by omega);go_wp2;go_ret;exact⟨aj z,_,rfl,by rw[HM.out];exact fp E.out (by omega)⟩
def gp(K:Nat->Prop)(w:ω)(v:Value)(L:List Int):Prop:=br 1 (λw b o x=>d7 w b o x/\K b) w v L
theorem gp.list{K:Nat->Prop}{w:ω}{v:Value}{L:List Int}(h:gp K w v L):dd w v L:=by obtain ⟨A,d,J,F,I⟩:=h;refine⟨A,d,J,F,λi x O=>?_⟩;obtain⟨b,o,y,z,E⟩:=I i x O;exact⟨b,o,y,z,E.1⟩
theorem gp.mono{K d:Nat->Prop}{w:ω}{v:Value}{L:List Int}(h:gp K w v L)(I:∀b,b<w.heap.size->K b->d b):gp d w v L:=by obtain ⟨A,E,Q,J,O⟩:=h;refine⟨A,E,Q,J,λi x U=>?_⟩;obtain⟨b,o,F,y,z⟩:=O i x U;exact⟨b,o,F,y,z.1,I b y z.2⟩
theorem gp.grown{K:Nat->Prop}{w E:ω}{row:Option Nat}{v:Value}{L:List Int}(h:gp K w v L)(z:w.grownBy E row)(J:∀b,b<w.heap.size->K b->some b≠row):gp K E v L:=by obtain ⟨A,F,U,O,Q⟩:=h;refine⟨A,F,U,O,λi x V=>?_⟩;obtain⟨b,o,I,d,y⟩:=Q i x V;exact⟨b,o,I,c8 d z.size,(pj (z.block b d (J b d y.2))).trans y.1,y.2⟩
theorem gp.below{K:Nat->Prop}{w d:ω}{v:Value}{L:List Int}(h:gp K w v L)(y:κ w d):gp K d v L:=h.grown (gc y none) (λ_ _ _ h=>by cases h)
theorem gp.amv{K:Nat->Prop}{w:ω}{v:Value}{L:List Int}(h:dd w v L)(F:∀b,b<w.heap.size->K b):gp K w v L:=by obtain ⟨A,y,O,I,J⟩:=h;refine⟨A,y,O,I,λi x Q=>?_⟩;obtain⟨b,o,z,d,E⟩:=J i x Q;exact⟨b,o,z,d,E,F b d⟩
theorem gp.fg{K:Nat->Prop}{w:ω}{B:Nat}{v:Value}{L:List Int}(h:w.ownsRow B 3 1 v L.length (bg L))(F:∀b,B<=b->K b):gp K w v L:=by
 have d:=h;rcases h.2 with ⟨E,z⟩ | ⟨g,y,Q,rfl,J,U,I,_⟩
 . obtain rfl:L=[]:=bh z;rw[E];exact br.nil w
 . refine⟨_,y,rfl,I,λi x O=>⟨g,0,rfl,(d.lt g rfl).2,?_,F g J⟩⟩;show w.cell? (δ g (0+i*1))=_;rw[j2,bq];exact m6 d i _ (by simp[bg,O])
def ag9(n:Nat)(L:List Int)(w:ω)(e:Ending)(d:ω):Prop:=κ w d/\∃v,e=.returned v/\gp (λb=>b<n\/w.heap.size<=b) d v L
theorem te.st{w:ω}{vs:Value}{S:List St}(h:te w vs S){k:Nat}(E:k<S.length) :
 ∃(b o cap:Nat)(y d z:Value),vs=.slice (some (δ b o)) S.length cap/\S.length<=cap/\b<w.heap.size/\StC w b (o+k*5) (aq S (k:Int)) y d z/\aaz w y d z (aq S (k:Int)) :=
 d8.st (vt:=.slice none 0 0) (C:=⟨0,S,[]⟩) ⟨h,br.nil w⟩ E
theorem km.at{w:ω}{v:Value}{H:List Nat}(h:km w v H){k:Nat}(d:k<H.length) :
 ∃(b o cap:Nat),v=.slice (some (δ b o)) H.length cap/\H.length<=cap/\b<w.heap.size/\w.cell? (δ b (o+k))=some (.int .u32 (ir H (k:Int):Int))/\ir H (k:Int)<4294967296:=by
 obtain⟨A,cap,Q,F,J⟩:=h;obtain⟨b,o,E,O,y,z⟩:=J k _ (ae d);have I:ir H (k:Int)=H[k]:=by unfold ir;simp[List.getD,ae d]
 rw[I];exact⟨b,o,cap,by rw[Q,E],F,O,by rwa [bq]at y,z⟩
theorem akw{w:ω}{x:Int}(g:Nat)(h:cg w g 3 #[ι x]):dd w (.slice (some (δ g 0)) 1 1) [x]:=by refine ⟨_,1,rfl,ai _,λi y d=>?_⟩;have z:=(bo.1 d).1;simp at z;subst z;simp at d;subst d;exact⟨g,0,rfl,h.lt,h.cell 0⟩
theorem gp.aqe{n m g:Nat}{w:ω}{x:Int}{c:Nat}(h:dd w (.slice (some (δ g 0)) 1 c) [x])(hm:m<=g):gp (λb=>b<n\/m<=b) w (.slice (some (δ g 0)) 1 c) [x]:=by obtain ⟨A,E,U,O,Q⟩:=h;injection U with d W F;refine⟨A,E,by rw[d,F];rfl,O,λi y V=>?_⟩;obtain⟨b,o,z,I,J⟩:=Q i y V;rw[z]at d;injection d with d;injection d with Y Z;exact⟨b,o,z,I,J,.inr (by omega)⟩
theorem gp.bak{K:Nat->Prop}{y w d:ω}{v:Value}{L:List Int}(h:gp K y v L)(z:κ y w)(E:κ w d):gp K d v L:=(h.below z).below E
theorem aw1(vs vh:Value)(S:List St)(H:List Nat)(s:Int)(w0 w:ω)(Q:κ w0 w)(ad:te w0 vs S)(al:km w0 vh H)(hl:S.length<=31)(co:H.length<=1000) :
 Calls prog 222 #[.agg #[vs,vh],ι s] w (ag9 w0.heap.size (za S H s) w):=by
 have O:=ad.below Q;have hH:=al.below Q;have b4:=aa Q;have HS:=aa O;have HH:=aa hH;obtain⟨sA,Y,rfl,c7⟩:=br.slice O;obtain⟨hA,U,rfl,c5⟩:=br.slice hH;have ak:=aa (ap w (aee (.slice sA S.length Y) (.slice hA H.length U)));have a5:=aa (cg.new w 193 #[.slice sA S.length Y,.slice hA H.length U]);have HA:=aa (ago (.slice sA S.length Y) (.slice hA H.length U) S s (w.alloc (aee (.slice sA S.length Y) (.slice hA H.length U))) (O.below ak) (by omega));cases J:c6 S s with
 | false =>have HR:=aa (show za S H s=[] by unfold za;rw[ao J]);rw[J]at HA;clear Q ad al O hH J;go_enter func222,ntmps222;go_wp2_with fail;refine HA.mono ?_;rintro e E⟨rfl,y⟩;have d:=aa (ak.trans (y.mono (by simp)));clear y;go_wp2;go_ret;exact⟨d,_,rfl,by rw[HR.out];exact br.nil _⟩
 | true =>
  obtain⟨k,rfl,hk⟩:=fq J
  rw[J]at HA
  obtain⟨b,o,ci,vi,ve,vx,cb,cv,b0,a0,am⟩:=ad.st hk
  have a9:=c8 b0 Q.size
  have ax:=a0.below Q b0
  injection cb with e1 e2 e3
  subst e1;subst e3
  have a4:=aa ax
  have b5:=aa am
  cases V:ct (aq S (k:Int)).kind with
  | false =>
   have HR:=aa (show za S H (k:Int)=[(k:Int)] by unfold za;rw[ah (by rw[J];simp),ao V])
   have av:=aa V
   clear Q ad al O hH J ax a0 am V
   go_enter func222,ntmps222
   go_wp2_with fail
   refine HA.mono ?_
   rintro e E⟨rfl,y⟩
   have F:=aa (a5.below y (by simp))
   have Z:=F.cell 0
   have x1:=F.cell 1
   simp at Z x1
   have d:=aa (ak.trans (y.mono (by simp)))
   obtain⟨c0,c1,c2,c3,c4⟩:=a4.below d a9
   clear y
   go_wp2_with fail
   refine(uz _ _).mono ?_
   rintro e w2⟨rfl,rfl⟩
   rw[av.out]
   go_wp2
   go_ret
   exact⟨d.alloc d.size _,_,rfl,by rw[HR.out];exact gp.aqe (akw _ (cg.new _ 3 _)) d.size⟩
  | true =>
   have av:=aa V
   by_cases hz:ir H (k:Int)=0
   . have HR:=aa (show za S H (k:Int)=(aq S (k:Int)).ip by unfold za;rw[ah (by rw[J];simp),ah (by rw[V];simp),ah (by rw[hz];simp)])
     obtain⟨iA,cc,eA,cl,xA,ds,rfl,rfl,rfl⟩:=am.slices
     have bf:∀E,κ w E->ag9 w0.heap.size (za S H (k:Int)) w (.returned (.slice iA (aq S (k:Int)).ip.length cc)) E:=λE z=>⟨z,_,rfl,by rw[HR.out];exact (gp.amv b5.1 (λb h=>.inl h)).bak b4 z⟩
     have bs:=aa bf
     by_cases bk:k<H.length
     . obtain⟨z,I,ca,hv,_,ba,hc,_⟩:=HH.at bk
       injection hv with e1 e2 e3
       subst e1;subst e3
       rw[hz]at hc
       generalize (aq S (k:Int)).ip.length=il at *
       clear Q ad al O hH J ax a0 am V hz bf
       go_enter func222,ntmps222
       go_wp2_with fail
       refine HA.mono ?_
       rintro e E⟨rfl,y⟩
       have F:=aa (a5.below y (by simp))
       have Z:=F.cell 0
       have x1:=F.cell 1
       simp at Z x1
       have d:=aa (ak.trans (y.mono (by simp)))
       obtain⟨c0,c1,c2,c3,c4⟩:=a4.below d a9
       have b1:=(d.cell (p:=(δ z (I+k))) ba).trans hc
       clear y hc
       go_wp2_with fail
       refine(uz _ _).mono ?_
       rintro e w2⟨rfl,rfl⟩
       rw[av.out]
       go_wp2
       go_ret
       exact bs.out _ d
     . generalize (aq S (k:Int)).ip.length=il at *
       clear Q ad al O hH J ax a0 am V hz bf
       go_enter func222,ntmps222
       go_wp2_with fail
       refine HA.mono ?_
       rintro e E⟨rfl,y⟩
       have F:=aa (a5.below y (by simp))
       have Z:=F.cell 0
       have x1:=F.cell 1
       simp at Z x1
       have d:=aa (ak.trans (y.mono (by simp)))
       obtain⟨c0,c1,c2,c3,c4⟩:=a4.below d a9
       clear y
       go_wp2_with fail
       refine(uz _ _).mono ?_
       rintro e w2⟨rfl,rfl⟩
       rw[av.out]
       go_wp2
       go_ret
       exact bs.out _ d
   . have HR:=aa (show za S H (k:Int)=agk S (cm (ir H (k:Int))) by unfold za;rw[ah (by rw[J];simp),ah (by rw[V];simp),ao hz])
     have bk:k<H.length:=by
      rcases et k H.length with h | h
      . exact h
      . exact absurd (by unfold ir;simp[List.getD,cn h]) hz
     obtain⟨z,I,ca,hv,_,ba,hc,b2⟩:=HH.at bk
     injection hv with e1 e2 e3
     subst e1;subst e3
     generalize ir H (k:Int)=h at *
     have db:((h:Int) != 0)=true:=bne_iff_ne.2 (by omega)
     have b6:=aa b2
     clear Q ad al O hH J ax a0 am V hz b2
     go_enter func222,ntmps222
     go_wp2_with fail
     refine HA.mono ?_
     rintro e E⟨rfl,y⟩
     have F:=aa (a5.below y (by simp))
     have Z:=F.cell 0
     have x1:=F.cell 1
     simp at Z x1
     have d:=aa (ak.trans (y.mono (by simp)))
     obtain⟨c0,c1,c2,c3,c4⟩:=a4.below d a9
     have b1:=(d.cell (p:=(δ z (I+k))) ba).trans hc
     clear y hc
     go_wp2_with fail
     refine(uz _ _).mono ?_
     rintro e w2⟨rfl,rfl⟩
     rw[av.out]
     have b9:=b1
     have a2:Hid (κ w E.drew):=aa d.drew
     have a3:Hid (cg E.drew w.heap.size 193 #[.slice (some (δ b o)) S.length Y,.slice (some (δ z I)) H.length U]):=aa F
     have b7:Hid (z<E.drew.heap.size):=aa (c8 ba d.size)
     go_wp2_with fail
     refine cr (λW=>W.cell? (δ w.heap.size 0)=some (.slice (some (δ b o)) S.length Y)/\W.cell? (δ w.heap.size 1)=some (.slice (some (δ z I)) H.length U)/\W.cell? (δ z (I+k))=some (.int .u32 (h:Int))) [] ?_
     have bb:Hid (E.drew.cell? (δ w.heap.size 0)=some (.slice (some (δ b o)) S.length Y)/\E.drew.cell? (δ w.heap.size 1)=some (.slice (some (δ z I)) H.length U)/\E.drew.cell? (δ z (I+k))=some (.int .u32 (h:Int))):=aa ⟨Z,x1,b9⟩
     refine a7 0 (.agg #[.slice (some (δ b o)) S.length Y,.slice (some (δ z I)) H.length U]) (bb) ?_
     refine af 1 (φ w.heap.size 1) ?_
     refine a7 2 (.slice (some (δ z I)) H.length U) (bb) ?_
     refine af 3 (ι (k:Int)) ?_
     refine af 4 (φ z (I+k)) ?_
     refine a7 5 (.int .u32 (h:Int)) (bb) ?_
     try simp only[Act.put,sx]
     refine a8 6 (λK HK=>?_)
     go_simp
     refine(ail _ _ S h _ (HS.below a2) (by omega) b6).mono ?_
     rintro e w3⟨bt,v3,rfl,b3⟩
     have a1:=aa bt
     have b8:=aa b3
     clear bt b3
     go_simp
     refine HK _ _ (λ_ O=>⟨(a3.below a1 a3.lt).cell 0,(a3.below a1 a3.lt).cell 1,(a1.cell (p:=(δ z (I+k))) b7).trans O.2.2⟩) ?_
     try simp only[Act.put,sx]
     refine af 7 v3 ?_
     try simp only[Act.put,sx]
     refine ce ?_
     go_wp2
     go_ret
     exact⟨a2.trans (a1.mono a2.size),_,rfl,by rw[HR.out];exact gp.fg b8 (λb h=>.inr (a6 a2.size h))⟩
theorem ayu(S:List St)(n:Nat){q:Int}(h:q<0):qm S n q=[]:=by
 cases n with
 | zero=>rfl
 | succ n=>rw[qm,ao h]
theorem am1(S:List St):∀(n m:Nat)(p:Int),(p+1).toNat<=n->(p+1).toNat<=m->qm S n p=qm S m p
 | 0,0,_,_,_=>rfl
 | 0,m+1,p,y,_=>by rw[qm,qm,ao (by omega)]
 | n+1,0,p,_,z=>by rw[qm,qm,ao (by omega)]
 | n+1,m+1,p,y,z=>by
  rw[qm,qm];by_cases d:p<0
  . rw[ao d,ao d]
  . have:=sj S p (by omega);rw[ah d,ah d,am1 S n m (lu S p) (by omega) (by omega)]
theorem awt(S:List St):∀(n:Nat)(p:Int),(qm S n p).length<=(p+1).toNat
 | 0,p=>by simp[qm]
 | n+1,p=>by
  rw[qm];by_cases d:p<0
  . rw[ao d];simp
  . rw[ah d,bm];have:=sj S p (by omega);have:=awt S n (lu S p);omega
theorem aad(S:List St)(s:Int):(wx S s).length<=S.length:=by have h:=awt S (s.toNat+1) (lu S s);have:=alr S s;have:=adf S s;unfold wx;omega
theorem aj2(g:Nat)(s:Int)(C:Ch)(w:ω)(V:fs w g C)(hl:C.ab.length<=1000)(d:p8 C.ab) :
 Calls prog 60 #[φ g 0,ι s] w (ab0 (wx C.ab s) w):=by
 obtain⟨i0,hi,al,am,av⟩:=info_parts Tryz.info3;have HI:=aa hi;have a2:=aa al;have a3:=aa am;have a4:=aa av;clear hi al am av;have I:=aa (λ(W:ω)(h:κ w W)(s:Int)=>ae0 g s C W (V.below h) hl);have Q:=aa d;have bt:=aad C.ab s;have U:wx C.ab s=qm C.ab (s.toNat+1) (lu C.ab s):=rfl;have a9:=adf C.ab s;have ad:=zx C.ab s;have ba:(lu C.ab s+1).toNat<=s.toNat+1:=by rcases ad with h | h<;>omega
 have a1:=aa (λq=>sj C.ab q);have ax:=aa (λq=>adf C.ab q);generalize wx C.ab s=R at *;have H0:=aa U;clear U V ad d;go_enter func60,ntmps60;go_wp2_with fail;refine(I _ (ag _ _) s).mono ?_;rintro e w1⟨rfl,rfl⟩;rw[Q.out s];generalize lu C.ab s=u at *;go_wp2_with fail;go_loopw [5,6] (λv p wr=>∃(n:Nat)(q:Int)(y:List Int),-1<=q/\(q+1).toNat<=n/\p=ι q/\Hid (R=y++qm C.ab n q)/\κ w wr/\Hid (wr.ownsRow w.heap.size 3 1 v y.length (bg y))) (λ_ p _=>(intOf p+1).toNat)
 case atStart=>exact ⟨s.toNat+1,u,[],a9,ba,rfl,by rw[H0.out];exact aa rfl,ag _ _,aa (bd _ _ _ _)⟩
 case round =>
  obtain⟨n,q,y,bk,hn,rfl,O,Y,F⟩:=hrel;have z:=aa Y;clear Y;by_cases hq:q=-1
  . have d:=O.out;rw[ayu C.ab n (by omega),dz]at d;have E:=aa d;subst hq;clear d;go_wp2;go_ret;exact⟨z,_,rfl,by rw[E.out];exact F.out⟩
  . obtain⟨m,rfl⟩:∃m,n=m+1:=⟨n-1,by omega⟩;have d:=O.out;rw[qm,ah (by omega),List.append_cons]at d;have bf:y.length<=1000:=(by have:=congrArg List.length d;simp at this;omega);have E:=aa d;have bs:(q != -1)=true:=(by simpa using hq);have b0:=a1.out q (by omega);have a5:=ax.out q;have bb:=z.size;clear d;go_wp2_with (at_builtin;refine wpList_append_own_at _ rfl _ _ 36 rfl (w.heap.size) 3 i0 (ι 0) 1 8 underlying36 HI a2 a3 a4 rfl (by decide) _ _ _ rfl (F.out.alloc _) (δ wr.heap.size 0) 1 1 [ι q] rfl rfl ?c1 ?c2 ?c3 ?c4 ?c5 ?_)
    case c1=>exact g8 _ _ _ _ (by simp)
    case c2=>exact fl _
    case c3=>unfold maxLen;omega
    case c4=>omega
    case c5=>simp;omega
    intro v' w2 ak Z _ _;have J:=aa (ck (z.alloc z.size _) Z (by simp;omega) (λg hg=>by have:=(F.out.lt g hg).1;simpa using this));have a0:=aa ak;clear ak Z;go_wp2_with fail;refine(I _ J q).mono ?_;rintro e w3⟨rfl,rfl⟩;rw[Q.out q];generalize lu C.ab q=u2 at *;go_wp2;go_roundw
    case rel=>exact ⟨m,u2,y ++ [q],a5,by omega,rfl,E,J,aa (by rw[dp];simpa using a0.out)⟩
    case measure=>simp[intOf];omega
theorem j5(P:Nat->Bool)(n i:Nat):(bset P n).testBit i=(decide (i<n)&&P i):=by
 by_cases h:i<n
 . rw[Nat.testBit_eq_decide_div_mod_eq,vj P n i h];cases P i<;>simp[h]
 . rw[Nat.testBit_lt_two_pow (c8 (qj P n) (ic (by decide) (by omega)))];simp[h]
theorem a5s(P:Nat->Bool)(n k:Nat)(y:k<n):bset P n ||| 2^k=bset (de P (k:Int)) n:=by
 refine ie λi=>?_;rw[Nat.testBit_or,j5,j5,Nat.testBit_two_pow];unfold de;by_cases d:k=i
 . subst d;simp[y]
 . have:¬((i:Int)=(k:Int)):=(by omega);simp[d,this]
theorem atp(P Q:Nat->Bool)(n:Nat):bset P n &&& bset Q n=bset (λx=>P x&&Q x) n:=by refine ie λi=>?_;rw[qk,j5,j5,j5];cases decide (i<n)<;>cases P i<;>cases Q i<;>rfl
theorem aau(P:Nat->Bool)(n:Nat):bset P n=0↔((List.range n).any P)=false:=by
 constructor
 . intro h;rw[gy];intro i d;have:=j5 P n i;rw[h]at this;have y:=dk.1 d;simp[y]at this;simp[this]
 . intro h;rw[gy]at h;refine ie λi=>?_;rw[j5,Nat.zero_testBit];by_cases d:i<n
   . have:=h i (dk.2 d);simp at this;simp[this]
   . simp[d]
theorem fy(P:Nat->Bool){n:Nat}(d:n<=31):bset P n<4294967296:=c8 (qj P n) (ic (n:=2) (by decide) (show n<=32 by omega))
theorem acv(P:Nat->Bool)(n k:Nat)(E:n<=31)(z:k<n):bits .or .u32 ((bset P n:Nat):Int) ((2:Int)^k)=((bset (de P (k:Int)) n:Nat):Int):=by
 have d:2^k<2^32:=Nat.pow_lt_pow_right (by decide) (by omega);have y:((2:Int)^k)=((2^k:Nat):Int):=by simp
 rw[y,(bits_nat .u32 32 (by decide) o4 _ _ (fy P E) d).2,a5s P n k z]
theorem a00(S:List St)(P:Nat->Bool):agk S (cm (bset P S.length))=qx P S.length:=by unfold agk qx;congr 1;refine List.filter_congr λi d=>?_;have y:=dk.1 d;unfold cm;rw[vj P _ i y];cases P i<;>simp
theorem qg(P:Nat->Bool)(n k:Nat)(F:n<=31)(E:k<n):(bits .and .u32 ((bset P n:Nat):Int) ((2:Int)^k)==0)=!P k/\(bits .and .u32 ((bset P n:Nat):Int) ((2:Int)^k) != 0)=P k:=by
 have z:cm (bset P n) k=P k:=by unfold cm;rw[vj P n k E];cases P k<;>simp
 have d:¬((2:Int)^k=0):=by
  have y:((2:Int)^k)=((2^k:Nat):Int):=by simp
  rw[y];have:=vp (n:=k) (show 0<2 by decide);omega
 rw[ajw _ k (fy P F) (by omega),z];cases P k
 . exact⟨rfl,rfl⟩
 . rw[ao rfl];exact⟨fw d,bne_iff_ne.2 d⟩
theorem ahi(g:Nat)(s:Int)(C:Ch)(w:ω)(U:fs w g C)(hl:C.ab.length<=31)(hs:c6 C.ab s=true) :
 Calls prog 62 #[φ g 0,ι s] w λe w'=>e=.returned (.int .u32 ((bset (vw C.ab s) C.ab.length:Nat):Int))/\κ w w':=by
 have O:=aa (apc g s C w U (by omega));rw[hs]at O;obtain⟨vs,vt,V,Q⟩:=U;have HK:=aa (ar5 C.vars s vs vt C w Q (by omega));obtain⟨⟨x0,x1,x2⟩,-⟩:=V.ax;clear V Q hs;go_enter func62,ntmps62;go_wp2_with fail;refine O.mono ?_;rintro e J⟨rfl,rfl⟩;go_wp2_with fail;refine HK.mono ?_;rintro e J⟨W,v,rfl,am⟩;have hL:=dc am;have a9:(lj C.ab s).length<=31:=a6 (aam C.ab s _) hl;have ak:∀x∈lj C.ab s,c6 C.ab x=true:=λx hx=>(ar4.1 hx).1;have Y:∀k,k<C.ab.length->((k:Int)∈lj C.ab s↔vw C.ab s k=true):=λk d=>by
  unfold lj sf;rw[gt];constructor
  . rintro⟨j,y,E⟩;obtain rfl:j=k:=(by omega);exact(ey.1 y).2
  . intro h;exact⟨k,ey.2 ⟨dk.2 d,h⟩,rfl⟩
 have ad:bset (λk:Nat=>decide ((k:Int)∈(lj C.ab s).take (lj C.ab s).length)) C.ab.length=bset (vw C.ab s) C.ab.length:=by
  refine ie λi=>?_;rw[j5,j5,ed];by_cases z:i<C.ab.length
  . have:=Y i z;cases d:vw C.ab s i with
    | true=>simp[z,this.2 d]
    | false=>simp[z];intro h;rw[this.1 h]at d;cases d
  . simp[z]
 have ax:=aa ad;have av:=aa W;have a0:=aa ak;generalize lj C.ab s=L at *;obtain⟨A,a3,rfl,a5,E⟩:=hL;have HE:=aa E;clear am E x0 x1 x2 W ak Y ad;go_wp2_with fail;go_loopw [5,19] (λv i wr=>∃k:Nat,k<=L.length/\i=ι (k:Int)/\v=.int .u32 ((bset (λj:Nat=>decide ((j:Int)∈L.take k)) C.ab.length:Nat):Int)/\wr=J) (λ_ i _=>L.length-(intOf i).toNat)
 case atStart =>refine ⟨0,ar _,rfl,?_,rfl⟩;have:bset (λj:Nat=>decide ((j:Int)∈L.take 0)) C.ab.length=0:=(aau _ _).2 (by rw[gy];intro x _;simp);rw[this];rfl
 case round =>
  obtain⟨k,d,rfl,rfl,rfl⟩:=hrel;by_cases F:k<L.length
  . obtain⟨b,o,rfl,a4,Z⟩:=HE.out k _ (ae F);have c0:wr.cell? (δ b (o+k))=some (ι L[k]):=(by have:=Z;unfold d7 at this;rwa [bq]at this);obtain⟨j,y,a2⟩:=fq (a0 L[k] (bw F));have I:=acv (λj:Nat=>decide ((j:Int)∈L.take k)) C.ab.length j hl a2;have al:de (λj:Nat=>decide ((j:Int)∈L.take k)) (j:Int)=λj:Nat=>decide ((j:Int)∈L.take (k+1)):=(by funext i;unfold de;rw[cp F,y];rw[dh];simp);rw[al]at I;rw[y]at c0;have a1:=aa I;generalize bset (λj:Nat=>decide ((j:Int)∈L.take k)) C.ab.length=B at *;clear Z I al y;go_wp2_with fail;refine(ag0 j (by omega) _).mono ?_;rintro e J⟨rfl,rfl⟩;go_wp2;go_roundw
    case rel=>exact ⟨k+1,by omega,by go_num,by rw[<-a1.out],trivial⟩
    case measure=>simp[intOf];omega
  . obtain rfl:k=L.length:=(by omega);go_wp2;go_ret;exact⟨cw (by rw[ax.out]),av⟩
theorem akr{acc:List Int}{x y:Int}:y∈ka acc x↔y∈acc\/y=x:=by
 unfold ka;split
 . rename_i h;constructor
   . exact .inl
   . rintro(d | rfl)
     . exact d
     . simpa using h
 . simp
def seenN(acc:List Int)(n:Nat):Nat:=bset (λk:Nat=>decide ((k:Int)∈acc)) n
theorem a27(acc:List Int)(n j:Nat):de (λk:Nat=>decide ((k:Int)∈acc)) (j:Int)=λk:Nat=>decide ((k:Int)∈ka acc (j:Int)):=by funext k;unfold de;rw[dh];simp[akr]
theorem a25{acc:List Int}{n j:Nat}(y:n<=31)(d:j<n)(h:acc.contains (j:Int)=true):(bits .and .u32 ((seenN acc n:Nat):Int) ((2:Int)^j)==0)=false:=by have:=(qg (λk:Nat=>decide ((k:Int)∈acc)) n j y d).1;unfold seenN;rw[this];simpa using h
theorem a26{acc:List Int}{n j:Nat}(y:n<=31)(d:j<n)(h:acc.contains (j:Int)=false):(bits .and .u32 ((seenN acc n:Nat):Int) ((2:Int)^j)==0)=true:=by have:=(qg (λk:Nat=>decide ((k:Int)∈acc)) n j y d).1;unfold seenN;rw[this];simpa using h
theorem a7s{acc:List Int}{n j:Nat}(y:n<=31)(d:j<n):bits .or .u32 ((seenN acc n:Nat):Int) ((2:Int)^j)=((seenN (ka acc (j:Int)) n:Nat):Int):=by have:=acv (λk:Nat=>decide ((k:Int)∈acc)) n j y d;unfold seenN;rw[this,a27 acc n j]
theorem aex{acc:List Int}{x:Int}(h:acc.contains x=true):ka acc x=acc:=by unfold ka;rw[ao h]
theorem aey{acc:List Int}{x:Int}(h:acc.contains x=false):ka acc x=acc ++ [x]:=by unfold ka;rw[ah (by rw[h];simp)]
theorem nf{α β:Type}(G:β->α->β)(l:List α)(k:Nat)(h:k<l.length)(b:β):(l.drop k).foldl G b=(l.drop (k+1)).foldl G (G b l[k]):=by rw[bp h,cx]
theorem a3l(vs vh vl:Value)(S:List St)(H:List Nat)(l:List Int)(w:ω)(hS:te w vs S)(hH:km w vh H)(hv:dd w vl l)(Z:S.length<=31)(co:H.length<=1000)(d4:l.length<=1000)
 (hV:∀s,(za S H s).length<=31/\∀x∈za S H s,c6 S x=true) :
 Calls prog 164 #[.agg #[vs,vh],vl] w (ab0 (uu S H l) w):=by
 obtain⟨i0,hi,bb,bf,bk⟩:=info_parts Tryz.info3;have HI:=aa hi;have cc:=aa bb;have ci:=aa bf;have cl:=aa bk;clear hi bb bf bk;have b5:=aa (λ(W:ω)(h:κ w W)(s:Int)=>aw1 vs vh S H s w W h hS hH Z co);have a1:=aa hV;have cb:=aa (cg.new w 193 #[vs,vh]);obtain⟨sA,bt,rfl,eg⟩:=br.slice hS;obtain⟨hA,a3,rfl,d2⟩:=br.slice hH;obtain⟨A,ds,rfl,d3,Q⟩:=hv;have HE:=aa Q;have O:Hid (uu S H l=l.foldl (λd s=>(za S H s).foldl ka d) []):=aa rfl;generalize uu S H l=R at *;clear Q hS hH hV;go_enter func164,ntmps164;go_wp2_with fail;go_loopw [5,6,13] (λv sn i wr=>∃(k:Nat)(d:List Int),k<=l.length/\d.length<=k*31/\i=ι (k:Int)/\sn=.int .u32 ((seenN d S.length:Nat):Int)/\Hid (R=(l.drop k).foldl (λd s=>(za S H s).foldl ka d) d)/\κ (w.alloc (aee (.slice sA S.length bt) (.slice hA H.length a3))) wr/\Hid (wr.ownsRow (w.heap.size+1) 3 1 v d.length (bg d))) (λ_ _ i _=>l.length-(intOf i).toNat)
 case atStart =>refine ⟨0,[],ar _,ar _,rfl,?_,O,ag _ _,aa (bd _ _ _ _)⟩;have:seenN [] S.length=0:=(aau _ _).2 (by rw[gy];intro x _;simp);rw[this];rfl
 case round =>
  obtain⟨k,d,hk,ak,rfl,rfl,O,y,F⟩:=hrel;obtain⟨Y,rfl⟩:∃Y:ω,Y=wr:=⟨_,rfl⟩;have J:=aa y;by_cases a4:k<l.length
  . obtain⟨b,o,rfl,cv,E⟩:=HE.out k _ (ae a4);have c0:Y.cell? (δ b (o+k))=some (ι l[k]):=(by have:=d7.keeps w Y b _ _ (aj y) cv E;rwa [bq]at this);have hX:=cb.below y (by simp);have x0:=hX.cell 0;have x1:=hX.cell 1;simp at x0 x1;have b7:=aa (O.trans (nf _ l k a4 d));have HO:=aa (b5 Y (aj y) l[k]);have dy:=(a1 l[k]).1;have b3:=aa (a1 l[k]).2;generalize l[k]=s at *;generalize za S H s=M at *;have ba:∀g,u5.ownBlock=some g->w.heap.size+1<=g/\g<Y.heap.size:=λg h=>F.out.lt g h;have ca:=aa ba;clear E hX ba y;go_wp2_with fail;refine HO.mono ?_;rintro e w1⟨al,v1,rfl,ad⟩;have b0:=aa (J.trans (al.mono J.size));have b6:=aa (bl F.out al);have b1:Hid (gp (λb=>some b≠u5.ownBlock) w1 v1 M):=aa (ad.mono λb y E=>by intro Q;have:=ca.out b Q.symm;omega);obtain⟨mA,bs,db,d6⟩:=br.slice ad;subst db;clear al ad F x0 x1;go_wp2_with fail;go_loopw [5,6,21] (λv sn i wr=>∃(m:Nat)(d:List Int),m<=M.length/\d.length<=k*31+m/\i=ι (m:Int)/\sn=.int .u32 ((seenN d S.length:Nat):Int)/\Hid (R=(l.drop (k+1)).foldl (λd s=>(za S H s).foldl ka d) ((M.drop m).foldl ka d))/\κ (w.alloc (aee (.slice sA S.length bt) (.slice hA H.length a3))) wr/\Hid (wr.ownsRow (w.heap.size+1) 3 1 v d.length (bg d))/\Hid (gp (λb=>some b≠v.ownBlock) wr (.slice mA M.length bs) M)) (λ_ _ i _=>M.length-(intOf i).toNat)
    case atStart=>exact ⟨0,d,ar _,ak,rfl,rfl,b7,b0,b6,b1⟩
    case round =>
     clear ak;obtain⟨m,U,hm,ak,rfl,rfl,O,y,F,HM⟩:=hrel;have J:=aa y;have d1:w.heap.size+1<=wr.heap.size:=(by have:=y.size;simpa using this);clear y;by_cases ax:m<M.length
     . obtain⟨mb,mo,c7,d5,a5,eb⟩:=(let ⟨_,_,h1,_,h3⟩:=HM.out;by injection h1 with e1 e2 e3;subst e1;exact h3 m _ (ae ax):∃b o,mA=some (δ b o)/\b<wr.heap.size/\(d7 wr b (o+m*1) M[m])/\some b≠_);subst c7;have d0:wr.cell? (δ mb (mo+m))=some (ι M[m]):=(by have:=a5;unfold d7 at this;rwa [bq]at this);obtain⟨j,hj,av⟩:=fq (b3 M[m] (bw ax));have I:=aa (O.trans (congrArg (λz=>(l.drop (k+1)).foldl (λd s=>(za S H s).foldl ka d) z) (nf _ M m ax U)));rw[hj]at d0 I;clear a5 hj;cases V:U.contains (j:Int) with
       | true =>
        have hz:=a25 Z av V;rw[aex V]at I;clear V;go_wp2_with fail;refine(qf j (by omega) _).mono ?_;rintro e w2⟨rfl,rfl⟩;go_wp2;go_roundw
        case rel=>exact ⟨m+1,U,by omega,by omega,by go_num,rfl,I,J,F,HM⟩
        case measure=>simp[intOf];omega
       | false =>
        have hz:=a26 Z av V;have a0:=aa (a7s (acc:=U) Z av);rw[aey V]at I a0;clear V;go_wp2_with fail;refine(qf j (by omega) _).mono ?_;rintro e w2⟨rfl,rfl⟩;go_wp2_with fail;refine(qf j (by omega) _).mono ?_;rintro e w2⟨rfl,rfl⟩;go_wp2_with (at_builtin;refine wpList_append_own_at _ rfl _ _ 36 rfl (w.heap.size+1) 3 i0 (ι 0) 1 8 underlying36 HI cc ci cl rfl (by decide) _ _ _ rfl (F.out.alloc _) (δ wr.heap.size 0) 1 1 [ι (j:Int)] rfl rfl ?c1 ?c2 ?c3 ?c4 ?c5 ?_)
        case c1=>exact g8 _ _ _ _ (by simp)
        case c2=>exact fl _
        case c3=>unfold maxLen;omega
        case c4=>omega
        case c5=>simp;omega
        intro v' w2 a9 am _ a2;have HG:=aa (ck (J.alloc J.size _) am (by simp;omega) (λg hg=>by have:=(F.out.lt g hg).1;simpa using this));have b4:=aa a9;have b2:Hid (gp (λb=>some b≠v'.ownBlock) w2 (.slice (some (δ mb mo)) M.length bs) M):=aa (((((HM.mono λb y E=>(⟨y,E⟩:b<wr.heap.size/\some b≠_)).below (ap wr _)).grown am λb _ E=>E.2).mono λb _ E=>by
         rcases a2 with h | h
         . rw[h];exact E.2
         . rw[h];intro Q;injection Q with Q;have:=E.1;have h3:(wr.alloc (.cells #[ι (j:Int)] 3)).heap.size=wr.heap.size+1:=(by simp);omega))
        clear a9 am a2;go_wp2;go_roundw
        case rel=>exact ⟨m+1,U ++ [(j:Int)],by omega,by simp;omega,by go_num,by rw[a0.out],I,HG,aa (by rw[dp];simpa using b4.out),b2⟩
        case measure=>simp[intOf];omega
     . obtain rfl:m=M.length:=(by omega);have I:=O.out;rw[bz]at I;have b8:=aa I;go_wp2;go_roundw
       case rel=>exact ⟨k+1,U,by omega,by omega,by go_num,rfl,b8,J,F⟩
       case measure=>simp[intOf];omega
  . obtain rfl:k=l.length:=(by omega);have hR:=O.out;rw[bz]at hR;have b9:=aa hR;clear hR;go_wp2;go_ret;exact⟨aj y,_,rfl,by rw[b9.out];exact fp F.out (by omega)⟩
theorem a0m(a b c:Value)(w:ω):Sem.run prog (Instr.field 25 (.agg #[a,b,c]) 1) w=.ok b w:=by unfold Instr.field;have h:=underlying25;simp[go_sem,asAgg]
theorem a8y{w:ω}{g:Nat}{a b:Value}(d:cg w g 193 #[a,b]):(loadVar 193 (δ g 0)).run prog w=.ok (.agg #[a,b]) w:=run_loadVar_row (P:=prog) w g 193 193 _ (0,0) _ d underlying193 rfl (by kernel_rfl)
theorem aog(g:Nat)(y:Option Addr)(F E:Nat)(C:Ch)(w:ω)(U:fs w g C)(hF:fewB C=true) :
 Calls prog 162 #[φ g 0,.slice y F E] w λe V=>κ w V/\∃vs,e=.returned (.agg #[vs,.slice y F E])/\te V vs C.ab:=by
 have Q:=aa (cg.new w 193 #[.slice none 0 0,.slice none 0 0]);have Z:=aa (yv g C _ (U.below (ap w (aee (.slice none 0 0) (.slice none 0 0)))) hF);clear U;go_enter func162,ntmps162;go_wp2_with fail;refine Z.mono ?_;rintro e w1⟨z,us,ut,rfl,I⟩;obtain⟨J,O,rA,ak,rfl,rfl⟩:=I.has.slices;have d:=aa (Q.below z Q.lt);have Y:=aa (aj z);have ad:=aa (I.lower (B':=w.heap.size) (by simp));have y0:=d.cell 0;have y1:=d.cell 1;have z0:=d.frozen 0;have z1:=d.frozen 1;simp at y0 y1;have al:=λW=>a0m (ι C.vars) (.slice J C.ab.length O) (.slice rA C.ay.length ak) W;clear z I;go_wp2_with fail;refine bodyPost_ret (l2 rfl _ _ _ rfl (a8y ((d.ca 0 _).ca 1 _))) rfl ?_;have q1:=d.ca 0 (.slice J C.ab.length O);exact⟨(Y.setCell (p:=⟨w.heap.size,0,none⟩) (ai _) _).setCell (p:=⟨w.heap.size,1,none⟩) (ai _) _,_,rfl,
  ((ad.apart d (by decide) (by decide) (by decide) (by decide) 0 (.slice J C.ab.length O)).apart q1 (by decide) (by decide) (by decide) (by decide) 1 (.slice y F E)).has.1⟩
end Go.Proofs.YtpekhdfmmkmjaaaGreatDoor
