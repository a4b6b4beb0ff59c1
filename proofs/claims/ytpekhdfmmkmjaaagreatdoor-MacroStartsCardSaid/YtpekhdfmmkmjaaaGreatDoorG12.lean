/- Texts of the proof, put together. -/
import Derived.Lib.AppendZerosOnto
import Derived.Laws.ResultCell
import Derived.Test.YtpekhdfmmkmjaaaGreatDoorG11
namespace Go.Proofs.YtpekhdfmmkmjaaaGreatDoor
set_option maxHeartbeats 8000000
set_option maxRecDepth 100000
set_option linter.unusedVariables false
open Go.Proofs.Tryz
section
variable {T:ByteArray→Int→Int→Bool} {C:Ch}
theorem axq{S:List St}(d:l1 S):∀s,c6 S s=true->ct (aq S s).kind=true->c6 S (aq S s).par=true/\((aq S (aq S s).par).kind=2\/(aq S (aq S s).par).kind=3):=λs E z=>by
 have I:=fj.1 E
 have J:s≠0:=by rintro rfl;rw[d.first]at z;revert z;decide
 have y:=d.up s E (by omega)
 obtain⟨O,F,Q⟩:=n5 y
 rw[<-F]
 exact⟨fj.2 ⟨y,by omega⟩,d.bca s y⟩
theorem a4p{S:List St}(y:l1 S){s:Int}(d:c6 S s=true):tx S s=afg S s:=by unfold tx afg kt;rw[ao d,y.par s d]
end
section
variable (env:List Int) (ev:Int)
end
open Go.ChangeShapes Go.WideShapes Go.ChangeAt Go.RowKit
section
variable {w0:World} {M:Nat→Option Obj} {t g:Nat} {vs vt:Value} {C:Ch} {w:World} {vh ve vi vo:Value} {X:Se}
theorem azy(X:Se):X.l8 X.au=X:=rfl
theorem a4n{C:Ch}(d:l1 C.ab){k:Nat}(z:k<C.ab.length)(y:ct (aq C.ab (k:Int)).kind=true):∃q:Nat,(aq C.ab (k:Int)).par=(q:Int)/\q<C.ab.length:=by have:=(fj.1 (axq d (k:Int) (ll z) y).1);exact⟨(aq C.ab (k:Int)).par.toNat,by omega,by omega⟩
theorem auw(hF:Fx w0 t vs vt C)(hS:fz w0 M t g vs vt C w vh ve vi vo X)(bf:C.ab.length<=X.au.length)(Q:Nat->Bool) :
 Calls prog 257 #[φ g 0,.int .u32 ((bset Q C.ab.length:Nat):Int)] w (ai1 w0 M t g vs vt C (X.l8 (q8 C.ab Q X.a C.ab.length X.au))):=by
 have d6:=hF.oz.len;have b2:=hF.oz;obtain⟨sA,c7,tA,db,rfl,rfl⟩:=hF.has.slices;have HS:=aa hS;have HF:=aa hF;have HT:=aa b2;obtain⟨⟨x0,x1,x2,x3,x4⟩,-⟩:=hS.cells;have HN:Hid (∀m,C.ab.length<=(q8 C.ab Q X.a m X.au).length):=aa (λm=>by rw[qd];exact bf);have HU:Hid (∀m,q8 C.ab Q X.a (m+1) X.au=if ct (aq C.ab (m:Int)).kind=true/\Q (aq C.ab (m:Int)).par.toNat=true then (q8 C.ab Q X.a m X.au).set m (bset (vy C.ab X.a (m:Int)) C.ab.length) else q8 C.ab Q X.a m X.au):=aa (λm=>rfl);have ca:Hid (q8 C.ab Q X.a 0 X.au=X.au):=aa rfl;generalize q8 C.ab Q X.a=U at *;clear hF hS b2 bf;go_enter func257,ntmps257;go_wp2_with fail;go_loopw [12] (λi wr=>∃(k:Nat)(b4 b3 b5 b6:Value),k<=C.ab.length/\i=ι (k:Int)/\Hid (fz w0 M t g (.slice sA C.ab.length c7) (.slice tA C.ay.length db) C wr b4 b3 b5 b6 (X.l8 (U k X.au)))) (λi _=>C.ab.length-(intOf i).toNat)
 case atStart=>exact ⟨0,_,_,_,_,ar _,rfl,aa (by rw[ca.out,azy];exact HS)⟩
 case round =>
  clear x0 x1 x2 x3 x4;obtain⟨k,b4,b3,b5,b6,hk,rfl,al⟩:=hrel;obtain⟨d,rfl⟩:∃d:ω,d=wr:=⟨_,rfl⟩;have y:=HU.out k;by_cases b0:k<C.ab.length
  . obtain⟨b,o,ds,ui,ue,ux,cv,_,cc,a2,a1⟩:=HF.has.st b0;injection cv with Y e2 e3;subst Y;obtain⟨c0,c1,c2,c3,c4⟩:=a2.below al.below cc;obtain⟨I,J,z,E,O,V,rfl,rfl,rfl⟩:=a1.slices;have ak:=aa (al.after (ap d (qc (aq C.ab (k:Int)).kind (aq C.ab (k:Int)).par (.slice I (aq C.ab (k:Int)).ip.length J) (.slice z (aq C.ab (k:Int)).kv.length E) (.slice O (aq C.ab (k:Int)).me.length V)))).drew;have av:=aa (cg.new d 59 #[ι (aq C.ab (k:Int)).kind,ι (aq C.ab (k:Int)).par,.slice I (aq C.ab (k:Int)).ip.length J,.slice z (aq C.ab (k:Int)).kv.length E,.slice O (aq C.ab (k:Int)).me.length V]).drew;have ba:=aa (amu HF ak k I z O (aq C.ab (k:Int)).ip.length J (aq C.ab (k:Int)).kv.length E (aq C.ab (k:Int)).me.length V);have ad:=aa (asc (aq C.ab (k:Int)).kind);cases F:ct (aq C.ab (k:Int)).kind with
    | false =>
     rw[F,ah (by simp)]at y;rw[F]at ad;have am:=aa y;have ax:=aa (al.after (ap d (qc (aq C.ab (k:Int)).kind (aq C.ab (k:Int)).par (.slice I (aq C.ab (k:Int)).ip.length J) (.slice z (aq C.ab (k:Int)).kv.length E) (.slice O (aq C.ab (k:Int)).me.length V))));generalize (aq C.ab (k:Int)).kind=K at *;generalize (aq C.ab (k:Int)).par=P at *;clear a2 a1 e2 e3 y F;go_wp2_with fail;refine(ad _).mono ?_;rintro e w2⟨rfl,rfl⟩;go_wp2;go_roundw
     case rel=>exact ⟨k+1,_,_,_,_,by omega,by go_num,aa (by rw[am.out];exact ax)⟩
     case measure=>simp[intOf];omega
    | true =>
     obtain⟨q,hq,co⟩:=a4n HT b0 F
     rw[F,hq]at y
     rw[F]at ad
     have a9:(((q:Nat):Int)).toNat=q:=by simp
     rw[a9]at y
     have b1:=(qg Q C.ab.length q (by omega) co).2
     cases Z:Q q with
     | false =>
      rw[Z,ah (by simp)]at y
      rw[Z]at b1
      have am:=aa y
      have ax:=aa (al.after (ap d (qc (aq C.ab (k:Int)).kind (aq C.ab (k:Int)).par (.slice I (aq C.ab (k:Int)).ip.length J) (.slice z (aq C.ab (k:Int)).kv.length E) (.slice O (aq C.ab (k:Int)).me.length V))))
      rw[hq]at c1 ax
      clear a2 a1 e2 e3 y F Z a9
      go_wp2_with fail
      refine(ad _).mono ?_
      rintro e w2⟨rfl,rfl⟩
      go_wp2_with fail
      refine(kh q (by omega) _).mono ?_
      rintro e w2⟨rfl,rfl⟩
      go_wp2
      go_roundw
      case rel=>exact ⟨k+1,_,_,_,_,by omega,by go_num,aa (by rw[am.out];exact ax)⟩
      case measure=>simp[intOf];omega
     | true =>
      rw[Z,ao ⟨rfl,rfl⟩]at y
      rw[Z]at b1
      have am:=aa y
      rw[hq]at c1 ak av ba
      have cb:=HN.out k
      have a5:k<(X.l8 (U k X.au)).au.length:=by show k<(U k X.au).length;omega
      obtain⟨hB,bs,dy,rfl,d5,bt,bk,ci,cl⟩:=ak.rows.au.place a5
      have bb:=aa bk
      have b7:=aa bt
      have b8:Hid (bset (vy C.ab X.a (k:Int)) C.ab.length<4294967296):=aa (fy _ (by omega))
      obtain⟨⟨y0,y1,y2,y3,y4⟩,-⟩:=d9 av
      have y5:=ak.cells.2.1
      clear a2 a1 e2 e3 y F Z a9 ci cl bk bt cb
      go_wp2_with fail
      refine(ad _).mono ?_
      rintro e w2⟨rfl,rfl⟩
      go_wp2_with fail
      refine(kh q (by omega) _).mono ?_
      rintro e w2⟨rfl,rfl⟩
      go_wp2_with fail
      refine cr (λW=>W.cell? (δ g 5)=some (.slice (some (δ hB 0)) (X.l8 (U k X.au)).au.length bs)/\(W.cell? (δ d.heap.size 0)=some (ι (aq C.ab (k:Int)).kind)/\W.cell? (δ d.heap.size 1)=some (ι (q:Int))/\W.cell? (δ d.heap.size 2)=some (.slice I (aq C.ab (k:Int)).ip.length J)/\W.cell? (δ d.heap.size 3)=some (.slice z (aq C.ab (k:Int)).kv.length E)/\W.cell? (δ d.heap.size 4)=some (.slice O (aq C.ab (k:Int)).me.length V))) [10] ?_
      try simp only[Act.put,sx]
      generalize (d.alloc (.cells #[ι (aq C.ab (k:Int)).kind,ι (q:Int),.slice I (aq C.ab (k:Int)).ip.length J,.slice z (aq C.ab (k:Int)).kv.length E,.slice O (aq C.ab (k:Int)).me.length V] 59)).drew=w1 at *
      refine af 0 (φ g 0) ?_
      refine af 1 (φ g 0) ?_
      refine af 2 (φ g 4) ?_
      refine af 3 (φ g 5) ?_
      refine a7 4 (.slice (some (δ hB 0)) (X.l8 (U k X.au)).au.length bs) (⟨y5,y0,y1,y2,y3,y4⟩) ?_
      refine af 5 (ι (k:Int)) ?_
      refine af 6 (φ g 0) ?_
      refine a7 7 (.agg #[ι (aq C.ab (k:Int)).kind,ι (q:Int),.slice I (aq C.ab (k:Int)).ip.length J,.slice z (aq C.ab (k:Int)).kv.length E,.slice O (aq C.ab (k:Int)).me.length V]) (⟨y5,y0,y1,y2,y3,y4⟩) ?_
      try simp only[Act.put,sx]
      refine a8 8 (λK HK=>?_)
      go_simp
      refine ba.mono ?_
      rintro e w3⟨rfl,a0⟩
      have a4:=aa (ak.after a0)
      have a3:=aa (bb.below a0 bb.lt)
      obtain⟨⟨z0,z1,z2,z3,z4⟩,-⟩:=d9 (av.below a0 av.lt)
      have z5:=a4.cells.2.1
      have r0:=a3.cell k
      have f0:=a3.frozen k
      clear a0
      go_simp
      refine HK _ _ (λ_ hS=>⟨z5,z0,z1,z2,z3,z4⟩) ?_
      try simp only[Act.put,sx]
      refine af 9 (φ hB k) ?_
      try simp only[Act.put,sx]
      obtain⟨d1,d3,d0,c5,-,-,-,d2,d4⟩:=a4.rows.au.place a5
      injection c5 with Y e2 e3
      injection Y with Y
      injection Y with Y e4
      subst Y
      have b9:=aa (a4.ab2 a3 b7 a5 b8)
      clear r0 f0 e2 e3 e4
      refine a8 10 (λK HK=>?_)
      go_simp
      go_simp
      refine HK _ _ (λh=>absurd h (by decide)) ?_
      try simp only[Act.put,sx]
      refine ce ?_
      go_wp2
      go_roundw
      case rel=>exact ⟨k+1,_,_,_,_,by omega,by go_num,aa (by rw[am.out];exact b9)⟩
      case measure=>simp[intOf];omega
  . obtain rfl:k=C.ab.length:=(by omega);go_wp2;go_end0;exact .of rfl rfl al
theorem a5r{n k:Nat}(z:k<n):bset (λj=>decide (j=k)) n=2^k:=by
 refine ie λi=>?_;rw[j5,Nat.testBit_two_pow];by_cases d:i=k
 . subst d;simp[z]
 . have y:decide (k=i)=false:=(by simpa using j1 d);rw[y];simp[d]
theorem awj(P:Nat->Bool){n k:Nat}(E:n<=31)(z:k<n):bits .andNot .u32 ((bset P n:Nat):Int) ((2:Int)^k)=((bset (λj=>P j&&decide (j≠k)) n:Nat):Int):=by
 have d:((2:Int)^k)=((bset (λj=>decide (j=k)) n:Nat):Int):=by rw[a5r z];simp
 rw[d,aiz P _ n E];congr 1;refine gj n λj _=>?_;by_cases y:j=k<;>simp[y]
theorem ao7(F:Fx w0 t vs vt C)(hS:fz w0 M t g vs vt C w vh ve vi vo X)(a9:C.ab.length<=X.au.length){n:Nat}(hX:ug n X)(hn:n<=8000)(Q:Nat->Bool) :
 Calls prog 209 #[φ g 0,.int .u32 ((bset Q C.ab.length:Nat):Int)] w (ai1 w0 M t g vs vt C (lvS C.ab Q X)):=by
 have cl:=F.oz.len;have a3:=aa (auw F hS a9 Q);obtain⟨sA,ca,tA,cb,rfl,rfl⟩:=F.has.slices;have O:=aa F;have HR:Hid (lvS C.ab Q X=qe C.ab Q C.ab.length (X.l8 (q8 C.ab Q X.a C.ab.length X.au))):=aa rfl;have HX:=aa (acr hX (q8 C.ab Q X.a C.ab.length X.au));obtain⟨Y,hY⟩:∃Y,X.l8 (q8 C.ab Q X.a C.ab.length X.au)=Y:=⟨_,rfl⟩;rw[hY]at a3 HR HX;have HU:Hid (∀d,qe C.ab Q (d+1) Y=if Q (C.ab.length-1-d)=true then au5 C.ab (C.ab.length-1-d) (qe C.ab Q d Y) else qe C.ab Q d Y):=aa λd=>rfl;have b5:Hid (∀d,ug (n+d) (qe C.ab Q d Y)):=aa λd=>aal (λs=>(F.acts s).2.1) Q HX.out d;have a5:Hid (qe C.ab Q 0 Y=Y):=aa rfl;rw[HR.out];generalize qe C.ab Q=U at *;clear F hS hX hY HR a9;go_enter func209,ntmps209;go_wp2_with fail;refine a3.out.mono ?_;rintro e w1⟨rfl,db,c5,dy,d1,a0⟩;have a4:=aa a0;obtain⟨⟨x0,x1,x2,x3,x4⟩,-⟩:=a0.cells;clear a0;have b9:IntKind.i64.wrap ((C.ab.length:Int)-1)=(C.ab.length:Int)-1:=by rw[ns];omega
 go_wp2_with fail;go_loopw [4] (λi wr=>∃(d:Nat)(bs bk bt b0:Value),d<=C.ab.length/\i=ι ((C.ab.length:Int)-1-(d:Int))/\Hid (fz w0 M t g (.slice sA C.ab.length ca) (.slice tA C.ay.length cb) C wr bs bk bt b0 (U d Y))) (λi _=>(intOf i+1).toNat)
 case atStart=>exact ⟨0,_,_,_,_,ar _,by go_num,aa (by rw[a5.out];exact a4.out)⟩
 case round =>
  clear a4 a5 x0 x1 x2 x3 x4 b9;obtain⟨d,bs,bk,bt,b0,hd,rfl,z⟩:=hrel;obtain⟨wo,rfl⟩:∃wo:ω,wo=wr:=⟨_,rfl⟩;have E:=HU.out d;by_cases ax:d<C.ab.length
  . obtain⟨k,hk⟩:∃k,C.ab.length-1-d=k:=⟨_,rfl⟩;have av:k<C.ab.length:=(by omega);have e1:(C.ab.length:Int)-1-(d:Int)=(k:Int):=(by omega);rw[e1];rw[hk]at E;have y:=aa hk;have J:=aa ax;have b7:decide (0<=(k:Int))=true:=(by simp);have ba:=(qg Q C.ab.length k (by omega) av).2;have a2:=aa (b5.out d);obtain⟨⟨x0,x1,x2,x3,x4⟩,-⟩:=z.out.cells;have co:IntKind.i64.wrap ((k:Int)-1)=(k:Int)-1:=(by rw[ns];omega);cases I:Q k with
    | false =>
     rw[I,ah (by simp)]at E;rw[I]at ba;have V:=aa E;clear I E hk ax e1;go_wp2_with fail;refine(kh k (by omega) _).mono ?_;rintro e w2⟨rfl,rfl⟩;go_wp2;go_roundw
     case rel=>exact ⟨d+1,_,_,_,_,by have:=J.out;omega,by have:=y.out;have:=J.out;congr 1;omega,aa (by rw[V.out];exact z.out)⟩
     case measure=>simp[intOf]
    | true =>
     rw[I,ao rfl]at E;rw[I]at ba;have V:=aa E;obtain⟨b,o,cc,ui,ue,ux,b8,_,b6,bf,am⟩:=O.out.has.st av;injection b8 with e4 e5 e6;subst e4;obtain⟨c0,c1,c2,c3,c4⟩:=bf.below z.out.below b6;obtain⟨iA,cv,eA,ci,xA,d3,rfl,rfl,rfl⟩:=am.slices;have a1:=aa (apr O.out z.out a2.out (by omega) _ (aq C.ab (k:Int)).me (am.2.2.below z.out.below) (O.out.acts (k:Int)).2.1 (O.out.acts (k:Int)).2.2);obtain⟨Z,hZ⟩:∃Z,U d Y=Z:=⟨_,rfl⟩;rw[hZ]at z a2 a1 V x4;have HA:Hid ((doS (aq C.ab (k:Int)).me Z).a=Z.a):=aa rfl;have al:(λj=>Z.a j&&decide (j≠k))=λj=>Z.a j&&!decide (j=k):=(by funext j;simp);have b2:Hid (au5 C.ab k Z=(doS (aq C.ab (k:Int)).me Z).ta λj=>Z.a j&&!decide (j=k)):=aa (by rw[<-al];rfl);have ak:=awj Z.a (n:=C.ab.length) (k:=k) (by omega) av;rw[al]at ak;have b1:=aa ak;clear al ak;generalize (aq C.ab (k:Int)).me.length=xl at *;clear I E hk ax e1 bf am e5 e6 hZ;go_wp2_with fail;refine(kh k (by omega) _).mono ?_;rintro e w2⟨rfl,rfl⟩;go_wp2_with fail;refine a1.out.mono ?_;rintro e w3⟨rfl,ds,c7,d0,d2,bb⟩;have ad:=aa bb;clear bb x0 x1 x2 x3 x4 c0 c1 c2 c3 c4;have y4:=ad.out.drew.cells.1.2.2.2.2;have z4:=ad.out.drew.ww.1;rw[HA.out]at y4;have b3:=aa ad.out.drew;go_wp2_with fail;refine cr (λW=>W.cell? (δ g 4)=some (.int .u32 ((bset Z.a C.ab.length:Nat):Int))) [11] ?_;try simp only[Act.put,sx]
     generalize w3.drew=w4 at *;refine af 0 (φ g 0) ?_;refine af 1 (φ g 0) ?_;refine af 2 (φ g 4) ?_;refine af 3 (φ g 4) ?_;refine a7 4 (.int .u32 ((bset Z.a C.ab.length:Nat):Int)) (y4) ?_;refine af 5 (ι (k:Int)) ?_;try simp only[Act.put,sx]
     refine a8 6 (λK y=>?_);go_simp;refine(kh k (by omega) _).mono ?_;rintro e w5⟨rfl,rfl⟩;go_simp;refine y.out _ _ (λ_ hS=>y4) ?_;clear y K;try simp only[Act.put,sx]
     refine a8 7 (λK y=>?_);go_simp;rw[b1.out];refine y.out _ _ (λ_ hS=>y4) ?_;clear y K;try simp only[Act.put,sx]
     refine af 8 (φ g 0) ?_;refine af 9 (φ g 4) ?_;refine af 10 (φ g 4) ?_;try simp only[Act.put,sx]
     refine a8 11 (λK y=>?_);go_simp;go_simp;refine y.out _ _ (λh=>absurd h (by decide)) ?_;clear y K;try simp only[Act.put,sx]
     refine ce ?_;have b4:=aa (b3.out.ta λj=>Z.a j&&!decide (j=k));go_wp2;go_roundw
     case rel=>exact ⟨d+1,_,_,_,_,by have:=J.out;omega,by have:=y.out;have:=J.out;congr 1;omega,aa (by rw[V.out,b2.out];exact b4.out)⟩
     case measure=>simp[intOf]
  . obtain rfl:d=C.ab.length:=(by omega);have b7:decide (0<=(C.ab.length:Int)-1-(C.ab.length:Int))=false:=df (by omega);go_wp2;go_end0;exact .of rfl rfl z.out
end
theorem aug(z:Array Value)(m:Nat):(Builtin.zeroCells z m).toList.length=m*z.size:=by rw[qa,size_zeroCells]
theorem aw9{w:ω}{base cap n:Nat}{e:TypeId}{size:Nat}{xs:List Value}{rest:Array Value}(y:base<=w.heap.size)(d:xs.length=n*size)(F:rest.size=(cap-n)*size)(E:n<=cap)(z:cap<=maxLen) :
 (w.drew.alloc (.cells (xs.toArray++rest) e)).ownsRow base e size (.slice (some (δ w.heap.size 0)) n cap) n xs:=by
 refine⟨d,.inr ⟨w.heap.size,cap,_,rfl,y,heap_alloc_new w.drew _,E,z,?_,?_⟩⟩
 . rw[Array.size_append,List.size_toArray,d,F,<-Nat.add_mul];congr 1;omega
 . rw[Array.toList_append,<-d];exact List.take_left
theorem aeg(w:ω)(o:Obj)(row:Option Nat):w.grownBy (w.drew.alloc o) row:=⟨rfl,rfl,rfl,by simp,λk d _=>heap_alloc_old w.drew o d⟩
theorem ahn{P:Program}(w:ω)(base:Nat)(t U ty e:TypeId)(i:TypeInfo)(z:Value)(V kn:IntKind)(size bytes:Nat)(J:P.underlying t=some (.slice e))(O:P.underlying U=some (.int kn))(F:P.info? e=some i)(Z:i.zero=some z)
 (bt:i.size=size)(a4:i.bytes=bytes)(ad:z.cells.size=size)(a1:0<size)(bs:∀m,∀u∈(Builtin.zeroCells z.cells m).toList,u.oneCell'=true)
 (v:Value)(n:Nat)(xs:List Value)(y:w.ownsRow base e size v n xs)(m:Nat)(ak:n+m<=maxLen)(a5:(n+m)*bytes<=140737488355328)(al:base<=w.heap.size) :
 ∃v' w',(Builtin.append_ #[t,U] ty #[v,.int V (m:Int)]).run P w=.ok v' w'/\w'.ownsRow base e size v' (n+m) (xs++(Builtin.zeroCells z.cells m).toList)/\w.grownBy w' v.ownBlock/\(v'.ownBlock=v.ownBlock\/v'.ownBlock=some w.heap.size):=by
 subst bt;subst a4;have b2:n+m<=9223372036854775807:=by have:=ak;simp only[maxLen]at this;omega
 have Q:=aug z.cells m;rw[ad]at Q;have W:(xs++(Builtin.zeroCells z.cells m).toList).length=(n+m)*i.size:=by rw[aw,y.1,Q,Nat.add_mul]
 have b3:m*i.bytes<=(n+m)*i.bytes:=my _ (by omega);have hw:IntKind.i64.wrap (m:Int)=m:=by rw[ns];omega
 by_cases hm:m=0
 . subst hm;have b1:(Builtin.zeroCells z.cells 0).toList=[]:=bh (by rw[Q];omega);rw[b1,dz];refine⟨v,w,?_,by simpa using y,⟨rfl,rfl,rfl,ai _,λ_ _ _=>rfl⟩,.inl rfl⟩;rcases y.2 with ⟨rfl,rfl⟩ | ⟨g,d,E,rfl,_,_,av,_⟩
   . simp[Builtin.append_,run_underlying J,run_underlying O,sizeOf,typeInfo,F,asInt,asIntOf,IntKind.wrap,go_sem]
   . simp[Builtin.append_,run_underlying J,run_underlying O,sizeOf,typeInfo,F,asInt,asIntOf,IntKind.wrap,av,storeCells,go_sem]
 . rcases y.2 with ⟨rfl,rfl⟩ | ⟨g,d,E,rfl,a3,hg,av,a9,ba,b0⟩
   . have hx:xs=[]:=bh (by simpa using y.1);subst hx;have I:=Lib.run_append_nil_zeros (P:=P) w t U ty e i z V kn J O F Z m (by omega) a1 (by omega) (by omega);refine⟨_,_,I,?_,aeg w _ _,.inr rfl⟩;have:=aw9 (w:=w) (base:=base) (e:=e) (size:=i.size) (n:=m) (cap:=grownCap w m 0 e) (xs:=(Builtin.zeroCells z.cells m).toList) (rest:=Builtin.zeroCells z.cells (grownCap w m 0 e-m)) al Q (by rw[size_zeroCells,ad]) (grownCap_ge w m 0 e) (grownCap_le_maxLen w m 0 e (by omega));simpa using this
   . by_cases Y:n+m<=d
     . have am:n*i.size+(Builtin.zeroCells z.cells m).toList.length<=E.size:=(by rw[Q,ba,<-Nat.add_mul];exact my _ Y);have ax:=run_storeCells_at P g (n*i.size) e (Builtin.zeroCells z.cells m).toList 0 E w hg (by simpa using am) (bs m);simp only[iy]at ax;have bf:¬(m*i.size=0):=Nat.mul_ne_zero hm (by omega);have bb:¬((m:Int)<0):=(by omega);have a2:¬(281474976710656<(m:Int)*(i.bytes:Int)):=(by rw[<-Int.natCast_mul];omega);have I:(Builtin.append_ #[t,U] ty #[.slice (some (δ g 0)) n d,.int V (m:Int)]).run P w=.ok (.slice (some (δ g 0)) (n+m) d) (w.setRow g (E.toList.take (n*i.size)++(Builtin.zeroCells z.cells m).toList++E.toList.drop (n*i.size+(Builtin.zeroCells z.cells m).toList.length)).toArray):=(by simp[Builtin.append_,run_underlying J,run_underlying O,sizeOf,typeInfo,zeroValue,F,Z,asInt,asIntOf,hw,bb,bf,a2,Y,Addr.add_lit];have a0:=ax;simp at a0;rw[a0];rfl);refine⟨_,_,I,⟨W,.inr ⟨g,d,_,rfl,a3,setRow_heap w g E _ e _ hg,Y,a9,?_,?_⟩⟩,⟨rfl,rfl,rfl,by simp,λk _ hk=>setRow_other w g k _ (λe=>hk (by simp[Value.ownBlock,e]))⟩,.inl rfl⟩
       . simp only[List.size_toArray,aw,jo,nq,qa]at am ⊢;omega
       . rw[b0,<-W];exact List.take_left
     . have bk:∀j u,xs[j]?=some u->w.drew.cell? (((δ g 0):Addr).add j)=some u:=y.cells (g:=g) rfl;have hf:=run_firstCells_some (P:=P) w.drew i.size n (δ g 0) n d xs y.1 bk;have I:=Lib.run_append_grow_zeros (P:=P) w t U ty e i z V kn J O F Z (some (δ g 0)) n d xs hf m (by omega) a1 (by omega) (by omega) (by omega) (growslice_fits (by omega) a5);refine⟨_,_,I,?_,aeg w _ _,.inr rfl⟩;have:=aw9 (w:=w) (base:=base) (e:=e) (size:=i.size) (n:=n+m) (cap:=grownCap w (n+m) d e) (xs:=xs++(Builtin.zeroCells z.cells m).toList) (rest:=Builtin.zeroCells z.cells (grownCap w (n+m) d e-(n+m))) al W (by rw[size_zeroCells,ad]) (grownCap_ge w (n+m) d e) (grownCap_le_maxLen w (n+m) d e ak);have he:(xs++(Builtin.zeroCells z.cells m).toList).toArray++Builtin.zeroCells z.cells (grownCap w (n+m) d e-(n+m))=xs.toArray++Builtin.zeroCells z.cells m++Builtin.zeroCells z.cells (grownCap w (n+m) d e-(n+m)):=(by apply Array.ext';simp);rw[he]at this;exact this
theorem aea{P:Program}{w:ω}{I:Array Oper}{rest:List Oper}{o:Oper}{a:Act}{Q:Exit->Act->ω->Prop}(ad:o.guard=none)(s x:Operand)(t y:TypeId)
 (ho:o.op=.call {callee:=.builtin .append,args:=#[s,x],argTypes:=#[t,y]})
 (base:Nat)(e:TypeId)(i:TypeInfo)(z:Value)(F E:IntKind)(size bytes:Nat)(ht:P.underlying t=some (.slice e))(ax:P.underlying y=some (.int E))(hi:P.info? e=some i)(hz:i.zero=some z)
 (am:i.size=size)(Y:i.bytes=bytes)(a0:z.cells.size=size)(av:0<size)(ak:∀m,∀u∈(Builtin.zeroCells z.cells m).toList,u.oneCell'=true)
 (v:Value)(n:Nat)(xs:List Value)(hs:a.eval s=v)(al:w.ownsRow base e size v n xs)(m:Nat)(hx:a.eval x=.int F (m:Int))
 (V:n+m<=maxLen)(Z:(n+m)*bytes<=140737488355328)(W:base<=w.heap.size)
 (h:∀v' d,d.ownsRow base e size v' (n+m) (xs++(Builtin.zeroCells z.cells m).toList)->w.grownBy d v.ownBlock->(v'.ownBlock=v.ownBlock\/v'.ownBlock=some w.heap.size)->wpList P I Q rest (a.put o.dst v') d):wpList P I Q (o::rest) a w:=by
 obtain⟨v',d,hr,J,O,U⟩:=ahn (P:=P) w base t y o.type e i z F E size bytes ht ax hi hz am Y a0 av ak v n xs al m V Z W;exact Lib.wpList_append_run w ad s x t y ho v _ hs hx v' d hr (h v' d J O U)
theorem amx(m:Nat):(Builtin.zeroCells (Value.int .u32 0).cells m).toList=(List.replicate m 0).flatMap jg:=by
 have d:(Builtin.zeroCells (Value.int .u32 0).cells m).toList=List.replicate m (.int .u32 0):=by
  refine lr λj=>?_;simp only[Builtin.zeroCells,Value.cells];rcases et j m with h | h
  . simp[h,Nat.mod_one]
  . simp[h]
 rw[d];clear d;induction m with
 | zero=>rfl
 | succ m y=>simp_all [List.replicate_succ,jg]
theorem Tryz.an5:(Tryz.prog.info? 33).map (λi=>(i.zero,i.size,i.bytes))=some (some (.int .u32 0),1,4):=by kernel_rfl
theorem a3w(c:Nat)(w:ω):(binOp .eql 34 (.slice none 0 c) (.slice none 0 0)).run prog w=.ok (.bool true) w:=by kernel_rfl
theorem a8o(d:Addr)(n c:Nat)(w:ω):(binOp .eql 34 (.slice (some d) n c) (.slice none 0 0)).run prog w=.ok (.bool false) w:=by kernel_rfl
theorem a3x(c:Nat)(w:ω):(binOp .eql 36 (.slice none 0 c) (.slice none 0 0)).run prog w=.ok (.bool true) w:=by kernel_rfl
theorem a8p(d:Addr)(n c:Nat)(w:ω):(binOp .eql 36 (.slice (some d) n c) (.slice none 0 0)).run prog w=.ok (.bool false) w:=by kernel_rfl
theorem agj(t:Nat)(w:ω):(binOp .eql 28 (φ t 0) (.pointer none)).run prog w=.ok (.bool false) w:=by kernel_rfl
theorem aeu{w:ω}{v:Value}{H:List Nat}(h:km w v H):ni w 1 v H.length (H.flatMap jg) :=
 aah (cells:=jg) (λ_=>rfl) (by decide) h (λb o x y j u d=>by
  cases j with
  | zero=>simp at d;subst d;exact y.1
  | succ j=>simp at d) (λx _ u d=>axe rfl d)
theorem km.lt{w:ω}{v:Value}{H:List Nat}(h:km w v H):∀x∈H,x<4294967296:=λx y=>by
 obtain⟨b,o,d⟩:=br.mem h x y
 exact d.2
theorem aiq{B:Nat}{w:ω}{v:Value}{H:List Nat}(h:w.ownsRow B 33 1 v H.length (H.flatMap jg))(d:∀x∈H,x<4294967296):lp B w v H:=⟨cu.fg (cells:=jg) (λ_=>rfl) h,d⟩
theorem awa(v:Value)(H:List Nat)(w:ω)(h:km w v H)(hl:H.length<=1000) :
 Calls prog 97 #[v] w λe Y=>κ w Y/\∃v',e=.returned v'/\Y.ownsRow w.heap.size 33 1 v' H.length (H.flatMap jg):=by
 have hr:=aeu h;clear h;obtain⟨y,⟨c,rfl,J⟩ | ⟨F,I,rfl,O,U⟩⟩:=hr
 . obtain rfl:H=[]:=bh J;have av:=λW=>a3w c W;clear y J hl;go_enter func97,ntmps97;go_wp2;go_ret;exact⟨ag _ _,_,rfl,bd _ _ _ _⟩
 . obtain⟨i0,HI,ak,al,am⟩:=ιp Tryz.an5;have HN:=aa y;have z:=aa (ap w (.cells #[] 33));have E:=aa (λ(j:Nat)(u:Value)(d:(H.flatMap jg)[j]?=some u)=>(O j u d));have HO:=aa U;have av:=λW=>a8o F H.length I W;clear y O U;go_enter func97,ntmps97;go_wp2_with (at_builtin;refine wpList_append_own_at _ rfl _ _ 34 rfl w.heap.size 33 i0 (.int .u32 0) 1 4 underlying34 HI ak al am rfl (by decide) _ 0 [] rfl (acu w 33 1) F H.length I (H.flatMap jg) rfl HN ?c1 HO ?c3 ?c4 ?c5 ?_)
   case c1=>exact λj u d=>(z.cell (Lib.lt_of_cell (E j u d))).trans (E j u d)
   case c3=>unfold maxLen;omega
   case c4=>omega
   case c5=>simp
   intro v' w2 V Q _ _;have Z:=aa (ck z Q (by simp) (λg hg=>by have h:some w.heap.size=some g:=hg;injection h with h;omega));have HW:=aa V;clear V Q;go_wp2;go_ret;exact⟨Z,_,rfl,by simpa using HW.out⟩
theorem alp(v:Value)(L:List Int)(w:ω)(h:dd w v L)(hl:L.length<=100000) :
 Calls prog 99 #[v] w λe Y=>κ w Y/\∃v',e=.returned v'/\Y.ownsRow w.heap.size 3 1 v' L.length (bg L):=by
 have hr:=l9 h;clear h;obtain⟨y,⟨c,rfl,J⟩ | ⟨F,I,rfl,O,U⟩⟩:=hr
 . obtain rfl:L=[]:=bh J;have av:=λW=>a3x c W;clear y J hl;go_enter func99,ntmps99;go_wp2;go_ret;exact⟨ag _ _,_,rfl,bd _ _ _ _⟩
 . obtain⟨i0,HI,ak,al,am⟩:=ιp Tryz.info3;have HN:=aa y;have z:=aa (ap w (.cells #[] 3));have E:=aa (λ(j:Nat)(u:Value)(d:(bg L)[j]?=some u)=>(O j u d));have HO:=aa U;have av:=λW=>a8p F L.length I W;clear y O U;go_enter func99,ntmps99;go_wp2_with (at_builtin;refine wpList_append_own_at _ rfl _ _ 36 rfl w.heap.size 3 i0 (ι 0) 1 8 underlying36 HI ak al am rfl (by decide) _ 0 [] rfl (acu w 3 1) F L.length I (bg L) rfl HN ?c1 HO ?c3 ?c4 ?c5 ?_)
   case c1=>exact λj u d=>(z.cell (Lib.lt_of_cell (E j u d))).trans (E j u d)
   case c3=>unfold maxLen;omega
   case c4=>omega
   case c5=>simp
   intro v' w2 V Q _ _;have Z:=aa (ck z Q (by simp) (λg hg=>by have h:some w.heap.size=some g:=hg;injection h with h;omega));have HW:=aa V;clear V Q;go_wp2;go_ret;exact⟨Z,_,rfl,by simpa using HW.out⟩
def pm(n:Nat)(H:List Nat):List Nat:=H++List.replicate (n-H.length) 0
theorem arp(n:Nat)(H:List Nat):(pm n H).length=H.length+(n-H.length):=by unfold pm;rw[aw,ch]
theorem a8c{B:Nat}{w:ω}{v:Value}{H:List Nat}{n:Nat}(h:w.ownsRow B 33 1 v (H.length+(n-H.length)) (H.flatMap jg++(List.replicate (n-H.length) 0).flatMap jg))(y:∀x∈H,x<4294967296):lp B w v (pm n H):=by
 refine aiq ?_ (λx d=>?_)
 . rw[arp];unfold pm;rw[j7];exact h
 . unfold pm at d;rcases j9.1 d with d | d
   . exact y x d
   . rw[kz d];decide
theorem a8h(m:Nat):∀u∈(Builtin.zeroCells (Value.int .u32 0).cells m).toList,u.oneCell'=true:=by intro u d;rw[amx]at d;obtain⟨x,_,y⟩:=List.mem_flatMap.1 d;rw[cf.1 y];rfl
def vm(w:ω)(n:Nat)(v:Value)(X:Se):Prop:=∃vh ve vi,v=.agg #[.int .u32 ((bset X.a n:Nat):Int),vh,ve,vi,ι X.st]/\km w vh X.au/\fe w ve X.env/\dd w vi X.ins
theorem vm.below{w y:ω}{n:Nat}{v:Value}{X:Se}(h:vm w n v X)(d:κ w y):vm y n v X:=by obtain ⟨vh,ve,vi,rfl,z,E,F⟩:=h;exact⟨vh,ve,vi,rfl,z.below d,E.below d,F.below d⟩
theorem af3(t:Nat)(C:Ch)(w:ω)(hL:ju w)(hT:fs w t C)(hk:chk eu C=.ok)(b4:fewB C=true)(a:Nat->Bool)(vh ve vi:Value)(H:List Nat)(env y:List Int)(st:Int)
 (hH:km w vh H)(ds:H.length<=1000)(hE:fe w ve env)(db:env.length<=1000)(hI:dd w vi y)(dy:y.length<=100000) :
 Calls prog 48 #[φ t 0,.agg #[.int .u32 ((bset a C.ab.length:Nat):Int),vh,ve,vi,ι st]] w λe w'=>∃w0 g vs vt vh' f9 gb,e=.returned (φ g 0)/\κ w w0/\Fx w0 t vs vt C/\
  fz w0 (λ_=>none) t g vs vt C w' vh' f9 gb (.slice none 0 0) ⟨a,pm C.ab.length H,env,y,st,[]⟩:=by
 obtain⟨iU,HI,fa,fg,fn⟩:=ιp Tryz.an5;have d0:=(gr hk).len;obtain⟨F,I,rfl,f1⟩:=br.slice hH;obtain⟨J,O,rfl,f0⟩:=br.slice (iq hE);obtain⟨Q,U,rfl,f2⟩:=br.slice hI;have b5:=ap w (.cells #[.int .u32 ((bset a C.ab.length:Nat):Int),.slice F H.length I,.slice J env.length O,.slice Q y.length U,ι st] 38);have d1:=aa b5;have b0:=aa (cg.new w 38 #[.int .u32 ((bset a C.ab.length:Nat):Int),.slice F H.length I,.slice J env.length O,.slice Q y.length U,ι st]);have d5:=aa (yv t C _ ((hT.below b5).below (ag _ _).drew) b4);have er:=aa (λ(W:ω)(vs vt:Value)(h:κ w W)(hc:d8 W vs vt C)=>(⟨hL.after h,hT.below h,hc,hk,b4⟩:Fx W t vs vt C));have HH:=aa hH;have HE:=aa hE;have e2:=aa hI;have b1:=aa ds;have el:=aa db;have e1:=aa dy;have ci:=aa d0;obtain⟨m,hm⟩:∃m,C.ab.length-H.length=m:=⟨_,rfl⟩;have gk:IntKind.i64.wrap ((C.ab.length:Int)-(H.length:Int))=(C.ab.length:Int)-(H.length:Int):=by rw[ns];omega
 have gi:max (0:Int) ((C.ab.length:Int)-(H.length:Int))=(m:Int):=by omega
 have HM:=aa hm;obtain⟨⟨x0,x1,x2,x3,x4⟩,-⟩:=d9 b0.drew;clear hL hT hH hE hI b5 ds db dy hm f1 f0 f2 d0 hk b4;go_enter func48,ntmps48;go_wp2_with fail;refine cr (λW=>(W.cell? (δ w.heap.size 0)=some (.int .u32 ((bset a C.ab.length:Nat):Int))/\W.cell? (δ w.heap.size 1)=some (.slice F H.length I)/\W.cell? (δ w.heap.size 2)=some (.slice J env.length O)/\W.cell? (δ w.heap.size 3)=some (.slice Q y.length U)/\W.cell? (δ w.heap.size 4)=some (ι st))) [] ?_;try simp only[Act.put,sx]
 refine af 0 (φ t 0) ?_;refine af 1 (φ t 0) ?_;refine a7 3 (.agg #[.int .u32 ((bset a C.ab.length:Nat):Int),.slice F H.length I,.slice J env.length O,.slice Q y.length U,ι st]) (⟨x0,x1,x2,x3,x4⟩) ?_;try simp only[Act.put,sx]
 refine a8 2 (λK z=>?_);go_simp;refine d5.mono ?_;rintro e d⟨b6,vs,vt,rfl,b7⟩;have ax:Hid (κ w d):=aa (d1.drew.trans (b6.mono (by simp)));have ex:=aa b7.has;obtain⟨sA,al,tA,a1,rfl,rfl⟩:=b7.has.slices;have b2:=aa (b0.drew.below b6 b0.drew.lt);obtain⟨⟨y0,y1,y2,y3,y4⟩,-⟩:=d9 b2;have gl:w.heap.size<d.heap.size:=b2.lt;clear b6 b7 x0 x1 x2 x3 x4;go_simp;refine z _ _ (λ_ Y=>⟨y0,y1,y2,y3,y4⟩) ?_;try simp only[Act.put,sx]
 refine af 4 (.agg #[φ t 0,ι C.vars,.slice sA C.ab.length al,.slice tA C.ay.length a1,.int .u32 ((bset a C.ab.length:Nat):Int),.slice F H.length I,.slice J env.length O,.slice Q y.length U,ι st,.slice none 0 0]) ?_;try simp only[Act.put,sx]
 have HY:=aa (cg.new d 111 #[φ t 0,ι C.vars,.slice sA C.ab.length al,.slice tA C.ay.length a1,.int .u32 ((bset a C.ab.length:Nat):Int),.slice F H.length I,.slice J env.length O,.slice Q y.length U,ι st,.slice none 0 0]);have a3:=aa (b2.alloc (.cells #[φ t 0,ι C.vars,.slice sA C.ab.length al,.slice tA C.ay.length a1,.int .u32 ((bset a C.ab.length:Nat):Int),.slice F H.length I,.slice J env.length O,.slice Q y.length U,ι st,.slice none 0 0] 111));obtain⟨⟨z0,V,E,z3,z4⟩,-⟩:=d9 a3;refine a8 5 (λK z=>?_);go_simp;go_simp;refine z _ _ (λ_ Y=>⟨z0,V,E,z3,z4⟩) ?_;try simp only[Act.put,sx]
 refine a8 6 (λK z=>?_);go_simp;refine z _ _ (λ_ Y=>⟨z0,V,E,z3,z4⟩) ?_;try simp only[Act.put,sx]
 refine ce ?_;clear z0 V E z3 z4;have bk:=aa (ap d (.cells #[φ t 0,ι C.vars,.slice sA C.ab.length al,.slice tA C.ay.length a1,.int .u32 ((bset a C.ab.length:Nat):Int),.slice F H.length I,.slice J env.length O,.slice Q y.length U,ι st,.slice none 0 0] 111));clear y0 y1 y2 y3 y4;have E:=HY.cell 2;have V:=a3.cell 1;generalize d.alloc (.cells #[φ t 0,ι C.vars,.slice sA C.ab.length al,.slice tA C.ay.length a1,.int .u32 ((bset a C.ab.length:Nat):Int),.slice F H.length I,.slice J env.length O,.slice Q y.length U,ι st,.slice none 0 0] 111)=w3 at *;go_wp2_with fail;refine cr (λW=>W.cell? (δ d.heap.size 2)=some (.slice sA C.ab.length al)/\W.cell? (δ w.heap.size 1)=some (.slice F H.length I)) [] ?_;try simp only[Act.put,sx]
 refine af 0 (φ d.heap.size 0) ?_;refine af 1 (φ d.heap.size 0) ?_;refine af 2 (φ d.heap.size 1) ?_;refine af 3 (φ d.heap.size 2) ?_;refine a7 4 (.slice sA C.ab.length al) (⟨E,V⟩) ?_;refine af 5 (ι (C.ab.length:Int)) ?_;refine af 6 (φ w.heap.size 1) ?_;refine a7 7 (.slice F H.length I) (⟨E,V⟩) ?_;refine af 8 (ι (H.length:Int)) ?_;try simp only[Act.put,sx]
 refine a8 9 (λK z=>?_);go_simp;go_simp;refine z _ _ (λ_ Y=>⟨E,V⟩) ?_;try simp only[Act.put,sx]
 refine a8 10 (λK z=>?_);go_simp;go_simp;refine z _ _ (λ_ Y=>⟨E,V⟩) ?_;try simp only[Act.put,sx]
 refine a8 11 (λK z=>?_);go_simp;go_simp;refine z _ _ (λ_ Y=>⟨E,V⟩) ?_;try simp only[Act.put,sx]
 refine ce ?_;have eb:=aa (awa _ H w3.drew (HH.below ((ax.trans (bk.mono (by omega))).drew)) b1);have y1:w3.drew.cell? (δ w.heap.size 1)=some (.slice F H.length I):=V;clear V E;go_wp2_with fail;refine eb.mono ?_;rintro e w4⟨bb,v4,rfl,b8⟩;obtain⟨A4,gg,rfl⟩:=cd b8;have c0:d.heap.size<=w3.heap.size:=bk.size;have cc:Hid (κ d w4):=aa (bk.drew.trans (bb.mono c0));have e9:=aa (HY.drew.below bb HY.drew.lt);have e7:=aa (a3.drew.below bb a3.drew.lt);have a2:=aa (fp b8 c0);have c1:d.heap.size<=w4.heap.size:=cc.size;clear bb b8 y1;go_wp2_with (at_builtin;refine aea rfl _ _ 34 3 rfl d.heap.size 33 iU (.int .u32 0) .i64 .i64 1 4 underlying34 (by kernel_rfl) HI fa fg fn rfl (by decide) a8h _ H.length (H.flatMap jg) rfl a2 m rfl ?c3 ?c4 ?c5 ?_)
 case c3=>have:=HM.out;have:=b1.out;have:=ci.out;unfold maxLen;omega
 case c4=>have:=HM.out;have:=b1.out;have:=ci.out;omega
 case c5=>exact c1
 intro v5 w5 b9 bf h5;obtain⟨Z,ak,rfl⟩:=cd b9;have a9:=aa (ec e9 a2 (by decide) bf);have e8:=aa (ec e7 a2 (by decide) bf);have d2:=aa (ew (g:=d.heap.size) cc a2 c1 bf);have e3:Hid (w5.ownsRow d.heap.size 33 1 (.slice Z (H.length+m) ak) (H.length+m) (H.flatMap jg++(List.replicate m 0).flatMap jg)):=aa (by rw[<-amx];exact b9);have y5:=a9.cell 5;have f5:=a9.frozen 5;clear b9 bf h5;go_wp2_with fail;have co:=aa (a9.ca 5 (.slice Z (H.length+m) ak));have a4:=aa (e8.db (g':=d.heap.size) (by omega) 5 (.slice Z (H.length+m) ak));have bs:=aa (d2.setCell (p:=(δ d.heap.size 5)) (ai _) (.slice Z (H.length+m) ak));have e4:=aa (du e3 a9 (by decide) 5 (.slice Z (H.length+m) ak));clear y5 f5;generalize w5.setCell (δ d.heap.size 5) (.slice Z (H.length+m) ak)=w6 at *;have E:=a4.drew.cell 2;have z3:=a4.drew.cell 3;have d4:=aa (anq _ env w6.drew (HE.below ((ax.trans (bs.mono (by omega))).drew)) el);refine cr (λW=>W.cell? (δ w.heap.size 2)=some (.slice J env.length O)/\W.cell? (δ w.heap.size 3)=some (.slice Q y.length U)) [15] ?_;try simp only[Act.put,sx]
 refine af 0 (φ d.heap.size 0) ?_;refine af 1 (φ d.heap.size 0) ?_;refine af 2 (φ w.heap.size 2) ?_;refine a7 3 (.slice J env.length O) (⟨E,z3⟩) ?_;refine af 5 (φ w.heap.size 3) ?_;refine a7 6 (.slice Q y.length U) (⟨E,z3⟩) ?_;try simp only[Act.put,sx]
 refine a8 4 (λK z=>?_);go_simp;refine d4.mono ?_;rintro e w7⟨a0,v7,rfl,ca⟩;obtain⟨A7,am,rfl⟩:=ca.slice;have c2:d.heap.size<=w6.heap.size:=bs.size;have bt:Hid (κ d w7):=aa (bs.drew.trans (a0.mono c2));have cv:=aa (co.drew.below a0 co.drew.lt);have a5:=aa (a4.drew.below a0 a4.drew.lt);have e5:=aa (bl (bl e4 (ag _ _).drew) a0);have eg:=aa (cu.lower ca c2);have d6:=aa (alp _ y w7 (e2.below (ax.trans (bt.mono (by omega)))) (by have:=e1.out;omega));have s2:=a5.cell 2;have s3:=a5.cell 3;clear a0 ca;go_simp;refine z _ _ (λ_ Y=>⟨s2,s3⟩) ?_;try simp only[Act.put,sx]
 refine a8 7 (λK z=>?_);go_simp;refine d6.mono ?_;rintro e w8⟨av,v8,rfl,cb⟩;obtain⟨A8,ba,rfl⟩:=cd cb;have c7:d.heap.size<=w7.heap.size:=bt.size;have d3:Hid (κ d w8):=aa (bt.trans (av.mono c7));have ad:=aa (cv.below av cv.lt);have b3:=aa (a5.below av a5.lt);have e6:=aa (bl e5 av);have ek:=aa (cu.below eg av);have e0:=aa (fp cb c7);have r2:=b3.cell 2;have r3:=b3.cell 3;clear av cb;go_simp;refine z _ _ (λ_ Y=>⟨r2,r3⟩) ?_;try simp only[Act.put,sx]
 have q6:=ad.cell 6;have f6:=ad.frozen 6;have q7:=ad.cell 7;have f7:=ad.frozen 7;refine af 8 (φ d.heap.size 0) ?_;refine af 9 (φ d.heap.size 4) ?_;refine af 10 (φ d.heap.size 6) ?_;try simp only[Act.put,sx]
 have cl:=aa (b3.db (g':=d.heap.size) (by omega) 6 (.slice A7 env.length am));have n2:=cl.cell 2;have n3:=cl.cell 3;refine a8 11 (λK z=>?_);go_simp;go_simp;refine z _ _ (λ_ Y=>⟨n2,n3⟩) ?_;try simp only[Act.put,sx]
 clear n2 n3;refine af 12 (φ d.heap.size 0) ?_;refine af 13 (φ d.heap.size 4) ?_;refine af 14 (φ d.heap.size 7) ?_;try simp only[Act.put,sx]
 refine a8 15 (λK z=>?_);go_simp;go_simp;refine z _ _ (λh=>absurd h (by decide)) ?_;try simp only[Act.put,sx]
 refine ce ?_;go_wp2;go_ret;have f8:pu d.heap.size w8 (.slice Z (H.length+m) ak) (.slice A7 env.length am) (.slice A8 y.length ba) (.slice none 0 0) ⟨a,pm C.ab.length H,env,y,st,[]⟩:=by refine ⟨a8c ?_ HH.lt,ek,e0,bd _ _ _ _⟩;rw[HM.out];exact e6
 have fv:=(ad.ca 6 (.slice A7 env.length am)).ca 7 (.slice A8 y.length ba);have fu:=(d3.setCell (p:=(δ d.heap.size 6)) (ai _) (.slice A7 env.length am)).setCell (p:=(δ d.heap.size 7)) (ai _) (.slice A8 y.length ba);have f3:=f8.apart ad (by decide) (by decide) (by decide) (by decide) 6 (.slice A7 env.length am);have f4:=f3.apart (ad.ca 6 (.slice A7 env.length am)) (by decide) (by decide) (by decide) (by decide) 7 (.slice A8 y.length ba);exact⟨d,d.heap.size,_,_,_,_,_,rfl,ax,er d _ _ ax ex,fu,ai _,fv,f4,λk o hM=>by cases hM⟩
section
variable {w0:World} {M:Nat→Option Obj} {t g:Nat} {vs vt:Value} {C:Ch} {w:World} {vh ve vi vo:Value} {X:Se}
theorem awd:cm 0=λ_=>false:=by funext k;unfold cm;simp
theorem az8{C:Ch}(z:C.ab.length<=24)(P:Nat->Bool)(i:Int):leftN C (bset P C.ab.length) i=bset (cm (leftN C (bset P C.ab.length) i)) C.ab.length:=by
 unfold leftN;split
 . have:cm 0=λ_=>false:=awd;rw[this,yb]
 . have y:bset (agl C (bset P C.ab.length) i) 24=bset (agl C (bset P C.ab.length) i) C.ab.length:=ant _ z (λk d=>by unfold agl cm;rw[l6 (c8 (qj P _) (ic (by decide) d))];rfl);rw[y];exact(gj _ λk d=>by rw[tz k d]).symm
theorem bco{R:List Tr}{m:Nat}(h:m<R.length):s7 R (m:Int)=true:=by unfold s7;simp;omega
theorem avc(C:Ch)(n:Nat)(l:List Int)(m k:Nat):ow C n l (m+1) k=(ow C n l m k||(l.contains (m:Int)&&cm (leftN C n (m:Int)) k)):=aly _ _
theorem a0o(C:Ch)(H:List Nat)(l:List Int)(m k:Nat):ahv C H l (m+1) k=(ahv C H l m k||(decide ((es C.ay (m:Int)).cj≠ [])&&(l.contains (m:Int)&&(ae1 C.ab H (mj C (m:Int)) (es C.ay (m:Int)).cj).a k))):=aly _ _
theorem a38(d:Fx w0 t vs vt C)(y:fz w0 M t g vs vt C w vh ve vi vo X){B:Nat}(vl:Value)(l:List Int)(hv:w.ownsRow B 3 1 vl l.length (bg l))(bb:l.length<=1000000) :
 Calls prog 210 #[φ g 0,vl] w λe w'=>e=.returned (.int .u32 ((bset (ow C (bset X.a C.ab.length) l C.ay.length) C.ab.length:Nat):Int))/\κ w w':=by
 have ba:=d.oz.len;have a0:=d.oz;have ax:=d.rooted;have bk:=(fx d.few).2.1;obtain⟨sA,bt,tA,b0,rfl,rfl⟩:=d.has.slices;obtain⟨lA,bs,rfl⟩:=cd hv;have HS:=aa y;have a3:=aa (λ(W:ω)(h:κ w W)(x:Int)=>wn _ B l x W (bl hv h) bb);have al:=aa (λ(W:ω)(h:κ w W)(i:Int)=>ary t (bset X.a C.ab.length) i C W (d.tree.below (y.below.trans (h.mono y.lt))) d.few a0 ax (fy _ (by omega)));have ak:=aa (λi=>az8 (C:=C) ba X.a i);have U:=aa (λm k=>avc C (bset X.a C.ab.length) l m k);have H0:Hid (bset (ow C (bset X.a C.ab.length) l 0) C.ab.length=0):=aa (yb _);obtain⟨⟨x0,x1,x2,x3,x4⟩,-⟩:=y.cells;obtain⟨N,Y⟩:∃N,bset X.a C.ab.length=N:=⟨_,rfl⟩;rw[Y]at al ak U H0 x4 ⊢;have HN:=aa Y;generalize ow C N l=z at *;clear d a0 ax y hv Y;go_enter func210,ntmps210;go_wp2_with fail;go_loopw [5,13] (λv i wr=>∃m:Nat,m<=C.ay.length/\i=ι (m:Int)/\v=.int .u32 ((bset (z m) C.ab.length:Nat):Int)/\κ w wr) (λ_ i _=>C.ay.length-(intOf i).toNat)
 case atStart=>exact ⟨0,ar _,rfl,by rw[H0.out];rfl,ag _ _⟩
 case round =>
  obtain⟨m,hm,rfl,rfl,hb⟩:=hrel;obtain⟨I,rfl⟩:∃I:ω,I=wr:=⟨_,rfl⟩;clear x0 x1 x2 x3 x4;have E:=aa hb;clear hb;by_cases bf:m<C.ay.length
  . have O:=aa (a3 I E (m:Int));cases F:l.contains (m:Int) with
    | false =>
     rw[F]at O;have V:Hid (bset (z (m+1)) C.ab.length=bset (z m) C.ab.length):=aa (gj _ λk _=>by rw[U.out,F];simp);clear F;go_wp2_with fail;refine O.mono ?_;rintro e w2⟨rfl,rfl⟩;go_wp2;go_roundw
     case rel=>exact ⟨m+1,by omega,by go_num,by rw[V.out],E⟩
     case measure=>simp[intOf];omega
    | true =>
     rw[F]at O;have ad:=axb (z m) (cm (leftN C N (m:Int))) C.ab.length (by omega);have V:Hid (bset (z (m+1)) C.ab.length=bset (λk=>z m k||cm (leftN C N (m:Int)) k) C.ab.length):=aa (gj _ λk _=>by rw[U.out,F];simp);have a2:=aa (ak (m:Int));rw[<-a2.out]at ad;have a5:=aa ad;have a4:=aa (al I.drew E.drew (m:Int));have am:=aa ((HS.after E).drew);obtain⟨⟨y0,-,-,-,y4⟩,-⟩:=am.cells;rw[HN.out]at y4;generalize leftN C N (m:Int)=NL at *;clear F ad;go_wp2_with fail;refine O.mono ?_;rintro e w2⟨rfl,rfl⟩;go_wp2_with fail;refine cr (λW=>W.cell? (δ g 0)=some (φ t 0)/\W.cell? (δ g 4)=some (.int .u32 (N:Int))) [] ?_;try simp only[Act.put,sx]
     have av:κ w I.drew:=E.drew;generalize I.drew=w3 at *;refine af 0 (.int .u32 ((bset (z m) C.ab.length:Nat):Int)) ?_;refine af 1 (φ g 0) ?_;refine af 2 (φ g 0) ?_;refine af 3 (φ g 0) ?_;refine a7 4 (φ t 0) (⟨y0,y4⟩) ?_;refine af 5 (φ g 0) ?_;refine af 6 (φ g 0) ?_;refine af 7 (φ g 4) ?_;refine af 8 (φ g 4) ?_;refine a7 9 (.int .u32 (N:Int)) (⟨y0,y4⟩) ?_;refine af 10 (ι (m:Int)) ?_;try simp only[Act.put,sx]
     refine a8 11 (λK J=>?_);go_simp;refine a4.mono ?_;rintro e w4⟨rfl,Z⟩;have a1:=aa (av.trans (Z.mono av.size));have a9:=aa (am.after Z);obtain⟨⟨z0,-,-,-,Q⟩,-⟩:=a9.cells;rw[HN.out]at Q;clear Z;go_simp;refine J _ _ (λ_ y=>⟨z0,Q⟩) ?_;try simp only[Act.put,sx]
     refine a8 12 (λK J=>?_);go_simp;rw[a5.out];refine J _ _ (λ_ y=>⟨z0,Q⟩) ?_;try simp only[Act.put,sx]
     refine a8 13 (λK J=>?_);go_simp;refine J _ _ (λ_ y=>⟨z0,Q⟩) ?_;try simp only[Act.put,sx]
     refine ce ?_;go_wp2;go_roundw
     case rel=>exact ⟨m+1,by omega,by go_num,by rw[V.out],a1⟩
     case measure=>simp[intOf];omega
  . obtain rfl:m=C.ay.length:=(by omega);go_wp2;go_ret;exact⟨rfl,E⟩
theorem as2(d:Fx w0 t vs vt C)(z:fz w0 M t g vs vt C w vh ve vi vo X)(b1:X.au.length<=1000){B:Nat}(vl:Value)(l:List Int)(hv:w.ownsRow B 3 1 vl l.length (bg l))(d3:l.length<=1000000) :
 Calls prog 211 #[φ g 0,vl] w λe w'=>e=.returned (.int .u32 ((bset (ahv C X.au l C.ay.length) C.ab.length:Nat):Int))/\κ w w':=by
 have d6:=d.oz.len;have b4:=d.oz;have b3:=d.rooted;have eg:=(fx d.few).2.1;obtain⟨sA,el,tA,er,rfl,rfl⟩:=d.has.slices;obtain⟨lA,ek,rfl⟩:=cd hv;have HS:=aa z;have HF:=aa d;have ca:=aa (λ(W:ω)(h:κ w W)(x:Int)=>wn _ B l x W (bl hv h) d3);have ci:=aa (λ(W:ω)(h:κ w W)(i:Int)=>am9 t i C W (d.tree.below (z.below.trans (h.mono z.lt))) d.few b4 b3);have b8:=aa (λ(W:ω)(h:κ w W)(a:Int)(v:Value)(L:List Int)(hL:dd W v L)(hl:L.length<=1000)=>alw d (z.after h) b1 a v L hL hl);have co:=aa (λm k=>a0o C X.au l m k);have c7:=aa (λ(m:Nat)(hm:m<C.ay.length)=>asx d.few (m:Int));have H0:Hid (bset (ahv C X.au l 0) C.ab.length=0):=aa (yb _);obtain⟨⟨x0,x1,x2,x3,x4⟩,-⟩:=z.cells;generalize ahv C X.au l=E at *;clear d b4 b3 z hv b1;go_enter func211,ntmps211;go_wp2_with fail;go_loopw [5,14] (λv i wr=>∃m:Nat,m<=C.ay.length/\i=ι (m:Int)/\v=.int .u32 ((bset (E m) C.ab.length:Nat):Int)/\κ w wr) (λ_ i _=>C.ay.length-(intOf i).toNat)
 case atStart=>exact ⟨0,ar _,rfl,by rw[H0.out];rfl,ag _ _⟩
 case round =>
  obtain⟨m,hm,rfl,rfl,Y⟩:=hrel;obtain⟨U,rfl⟩:∃U:ω,U=wr:=⟨_,rfl⟩;clear x0 x1 x2 x3 x4;have HB:=aa Y;by_cases bb:m<C.ay.length
  . obtain⟨b,o,d5,wt,wa,d4,_,d1,b5,bf⟩:=HF.has.tra bb;injection d4 with e1 e2 e3;subst e1;have a9:=HS.below.trans (Y.mono HS.lt);obtain⟨c0,c1,c2,c3,c4,c5⟩:=b5.below a9 d1;have a3:=aa (bf.below a9);obtain⟨O,Q,av,ax,rfl,rfl⟩:=bf.slices;have I:=λk=>co m k;have a1:=c7.out m bb;have bk:zv C.ay (m:Int)=es C.ay (m:Int):=(by unfold zv;rw[ao (bco bb)]);rw[bk]at a1;obtain⟨T,hT⟩:∃T,es C.ay (m:Int)=T:=⟨_,rfl⟩;rw[hT]at c0 c1 c2 c3 c4 c5 a3 I a1;obtain⟨al,ev,gu,y,ak,ac⟩:=T;simp only at c0 c1 c2 c3 c4 c5 a3 I a1;have ba:zv C.ay (m:Int)=⟨al,ev,gu,y,ak,ac⟩:=(by rw[bk,hT]);clear b5 bf e2 e3 bk hT a9;have V:=aa (Y.alloc Y.size (.cells #[ι al,ι ev,.string gu,.slice O y.length Q,.bool ak,.slice av ac.length ax] 62));have b9:=aa (cg.new U 62 #[ι al,ι ev,.string gu,.slice O y.length Q,.bool ak,.slice av ac.length ax]);have ds:=aa (a3.1.below (ap U (.cells #[ι al,ι ev,.string gu,.slice O y.length Q,.bool ak,.slice av ac.length ax] 62)));clear Y;by_cases F:y=[]
    . have HU:Hid (bset (E (m+1)) C.ab.length=bset (E m) C.ab.length):=aa (gj _ λk _=>by rw[I k,F];simp);subst F;clear I ba;go_wp2;go_roundw
      case rel=>exact ⟨m+1,by omega,by go_num,by rw[HU.out],V⟩
      case measure=>simp[intOf];omega
    . have eb:0<y.length:=List.length_pos_iff.2 F;have dy:=aa F;generalize d2:y.length=tl at *;have db:Hid (y.length<=1000):=aa (by omega);clear F a1 d2;have F:=dy.out;have am:=aa (ca _ V (m:Int));cases Z:l.contains (m:Int) with
      | false =>
       rw[Z]at am;have HU:Hid (bset (E (m+1)) C.ab.length=bset (E m) C.ab.length):=aa (gj _ λk _=>by rw[I k,Z];simp);clear Z I ba F;go_wp2_with fail;refine am.mono ?_;rintro e w2⟨rfl,rfl⟩;go_wp2;go_roundw
       case rel=>exact ⟨m+1,by omega,by go_num,by rw[HU.out],V⟩
       case measure=>simp[intOf];omega
      | true =>
       rw[Z]at am;have b2:=axb (E m) (ae1 C.ab X.au (mj C (m:Int)) y).a C.ab.length (by omega);have HU:Hid (bset (E (m+1)) C.ab.length=bset (λk=>E m k||(ae1 C.ab X.au (mj C (m:Int)) y).a k) C.ab.length):=aa (gj _ λk _=>by rw[I k,Z];simp[F]);have cb:=aa b2;clear b2;have cc:=aa (ci _ V.drew (m:Int));have b0:=aa ((HS.after V).drew);clear F Z I ba;have bs:=aa V.drew;have a5:=aa b9.drew;have cv:=aa (ds.below (ag _ _).drew);obtain⟨⟨y0,-,-,-,-⟩,-⟩:=b0.cells;have y3:=a5.cell 3;go_wp2_with fail;refine am.mono ?_;rintro e w2⟨rfl,rfl⟩;go_wp2_with fail;refine cr (λW=>W.cell? (δ g 0)=some (φ t 0)/\W.cell? (δ U.heap.size 3)=some (.slice O tl Q)) [] ?_;try simp only[Act.put,sx]
       generalize (U.alloc (.cells #[ι al,ι ev,.string gu,.slice O tl Q,.bool ak,.slice av ac.length ax] 62)).drew=w3 at *;refine af 0 (.int .u32 ((bset (E m) C.ab.length:Nat):Int)) ?_;refine af 1 (φ g 0) ?_;refine af 2 (φ g 0) ?_;refine af 3 (φ g 0) ?_;refine af 4 (φ g 0) ?_;refine a7 5 (φ t 0) (⟨y0,y3⟩) ?_;refine af 6 (ι (m:Int)) ?_;refine af 8 (φ U.heap.size 3) ?_;refine a7 9 (.slice O tl Q) (⟨y0,y3⟩) ?_;try simp only[Act.put,sx]
       refine a8 7 (λK J=>?_);go_simp;refine cc.mono ?_;rintro e w4⟨rfl,ad⟩;have a2:=aa (bs.trans (ad.mono bs.size));have bt:=aa (b0.after ad);have a4:=aa (a5.below ad a5.lt);have b7:=aa (b8 w4 a2 (mj C (m:Int)) (.slice O tl Q) y (cv.below ad) db);obtain⟨⟨z0,-,-,-,-⟩,-⟩:=bt.cells;have z3:=a4.cell 3;clear ad;go_simp;refine J _ _ (λ_ z=>⟨z0,z3⟩) ?_;try simp only[Act.put,sx]
       refine a8 10 (λK J=>?_);go_simp;refine b7.mono ?_;rintro e w5⟨rfl,a0⟩;have b6:=aa (a2.trans (a0.mono a2.size));have cl:=aa (bt.after a0);have d0:=aa (a4.below a0 a4.lt);obtain⟨⟨q0,-,-,-,-⟩,-⟩:=cl.cells;have q3:=d0.cell 3;clear a0;go_simp;refine J _ _ (λ_ z=>⟨q0,q3⟩) ?_;try simp only[Act.put,sx]
       refine a8 11 (λK J=>?_);go_simp;rw[cb.out];refine J _ _ (λ_ z=>⟨q0,q3⟩) ?_;try simp only[Act.put,sx]
       refine a8 12 (λK J=>?_);go_simp;refine J _ _ (λ_ z=>⟨q0,q3⟩) ?_;try simp only[Act.put,sx]
       refine ce ?_;go_wp2;go_roundw
       case rel=>exact ⟨m+1,by omega,by go_num,by rw[HU.out],b6⟩
       case measure=>simp[intOf];omega
  . obtain rfl:m=C.ay.length:=(by omega);clear Y;go_wp2;go_ret;exact⟨rfl,HB⟩
end
def zy(S:List St)(H:List Nat)(s:Nat):Prop:=ir H (s:Int)≠0->s<S.length/\ct (aq S (s:Int)).kind=true/\∀x∈stD S H (s:Int),c6 S x=true/\ct (aq S x).kind=false
theorem af4{S:List St}{H:List Nat}{s:Int}(h:ir H s≠0):stD S H s=qx (cm (ir H s)) 32:=by unfold stD;rw[ao h]
theorem anc(S:List St)(P:Nat->Bool):∀m:Nat,S.length<=m->(∀x∈qx P m,c6 S x=true)->qx P m=agk S P
 | m,h,d=>by
  by_cases z:m=S.length
  . rw[z];rfl
  . obtain⟨q,rfl⟩:∃q,m=q+1:=⟨m-1,by omega⟩;rw[abh]at d ⊢;have E:¬P q=true:=λy=>by have:=fj.1 (d (q:Int) (by rw[ao y];simp));omega
    rw[ah E,dz]at d ⊢;exact anc S P q (by omega) d
theorem ac7{S:List St}{H:List Nat}(J:l1 S)(W:∀s,s<H.length->zy S H s):adj S H/\∀s,c6 S s=true->ct (aq S s).kind=true->stD S H s=za S H s:=by
 have O:∀s,c6 S s=true->ct (aq S s).kind=true->stD S H s=za S H s/\∀x∈za S H s,c6 S x=true/\ct (aq S x).kind=false:=by
  intro s y z;obtain⟨k,rfl,hk⟩:=fq y;have I:za S H (k:Int)=if ir H (k:Int)≠0 then agk S (cm (ir H (k:Int))) else (aq S (k:Int)).ip:=by unfold za;rw[ah (by rw[y];simp),ah (by rw[z];simp)]
  by_cases d:ir H (k:Int)≠0
  . have Z:k<H.length:=by
     rcases et k H.length with h | h
     . exact h
     . exact absurd (by unfold ir;simp[List.getD,cn h]) d
    have F:=(W k Z d).2.2;have Y:=anc S (cm (ir H (k:Int))) 32 (by have:=J.len;omega) (λx h=>(F x (by rw[af4 d];exact h)).1);have E:stD S H (k:Int)=za S H (k:Int):=(by rw[af4 d,I,ao d,Y]);exact⟨E,λx h=>F x (by rw[E];exact h)⟩
  . have E:stD S H (k:Int)=za S H (k:Int):=(by unfold stD;rw[ah d,I,ah d]);refine⟨E,λx h=>?_⟩;obtain⟨t,Q,U,V,_⟩:=J.a1l _ y z;rw[I,ah d,Q]at h;obtain rfl:=cf.1 h;exact⟨U,V⟩
 exact⟨λs y z x F=>(O s y z).2 x F,λs y z=>(O s y z).1⟩
theorem a31{P:Nat->Bool}{m:Nat}{x:Int}(h:x∈qx P m):∃k:Nat,x=(k:Int)/\k<m/\P k=true:=by unfold qx at h;obtain⟨k,z,rfl⟩:=gt.1 h;obtain⟨d,y⟩:=ey.1 z;exact⟨k,rfl,dk.1 d,y⟩
theorem adg{P:Nat->Bool}{m k:Nat}(d:k<m):cm (bset P m) k=P k:=by unfold cm;rw[vj P m k d];cases P k<;>simp
theorem apz{P:Nat->Bool}{m k:Nat}(h:cm (bset P m) k=true):k<m:=by refine Classical.byContradiction λd=>?_;unfold cm at h;rw[l6 (c8 (qj P m) (ic (by decide) (by omega)))]at h;simp at h
theorem a0h(n:Nat)(s:Int):ir (List.replicate n 0) s=0:=by
 unfold ir;rw[bv];rcases et s.toNat n with h | h
 . rw[List.getElem?_replicate_of_lt h];rfl
 . rw[cn (by rw[ch];exact h)];rfl
theorem ady(S:List St)(n:Nat):∀s,s<(List.replicate n 0).length->zy S (List.replicate n 0) s:=λs _ h=>absurd (a0h n s) h
def zq(C:Ch):Se:=⟨λ_=>false,List.replicate C.ab.length 0,List.replicate C.vars.toNat 0,[],1,[]⟩
def aap(C:Ch):Se :=
 let d:=enS C.ab 0 (zq C)
 nd C.ab (λk=>(ae1 C.ab d.au 0 (aq C.ab 0).ip).a k&&!d.a k) C.ab.length d
def a0k(C:Ch):Se :=
 let d:=jq C.ab (cm 1) C.ab.length (zq C)
 jq C.ab (cm (bset (agx C.ab d.au 0 (aq C.ab 0).ip) C.ab.length)) C.ab.length d
theorem a9m{k:Nat}(d:0<k):cm 1 k=false:=by unfold cm;have h:1<2^k:=Nat.one_lt_two_pow (by omega);rw[l6 h];rfl
theorem axr{C:Ch}(y:l1 C.ab):jq C.ab (cm 1) C.ab.length (zq C)=enS C.ab 0 (zq C):=by rw[adv];obtain⟨m,z⟩:∃m,C.ab.length=m+1:=⟨C.ab.length-1,by have:=y.pos;omega⟩;rw[z];exact as4 C.ab (by show (cm 1 0&&!false)=true;decide) (zq C) m λk d E=>by rw[a9m d];rfl
theorem a4r{C:Ch}(d:l1 C.ab):a0k C=aap C:=by
 unfold a0k aap;simp only;rw[axr d,adv];have z:(enS C.ab 0 (zq C)).au=List.replicate C.ab.length 0:=by rw[aas];rfl
 have y:=(ac7 d (ady C.ab C.ab.length)).1;rw[z,akc d y];exact afd C.ab _ _ λk E=>by rw[tz k E]
theorem ad8{C:Ch}(y:0<=C.vars/\C.vars<=8):ug 0 (zq C):=by
 refine⟨?_,λx d=>?_,?_,?_⟩
 . show(List.replicate C.vars.toNat (0:Int)).length<=1000;rw[ch];omega
 . have d:x∈List.replicate C.vars.toNat (0:Int):=d;rw[kz d];exact⟨by decide,by decide⟩
 . show([]:List Ou).length<=_;simp
 . show([]:List Int).length<=_;simp
theorem ba4(S:List St)(Q a:Nat->Bool)(H:List Nat)(k:Nat):ir (q8 S Q a S.length H) (k:Int)=if k<H.length/\k<S.length/\ct (aq S (k:Int)).kind=true/\Q (aq S (k:Int)).par.toNat=true then bset (vy S a (k:Int)) S.length else ir H (k:Int):=by
 unfold ir;rw[Int.toNat_natCast];rcases et k H.length with h | h
 . rw[aor S Q a H S.length k h];by_cases d:k<S.length/\ct (aq S (k:Int)).kind=true/\Q (aq S (k:Int)).par.toNat=true
   . rw[ao d,ao ⟨h,d⟩]
   . rw[ah d,ah (λy=>d y.2)]
 . rw[ah (λy=>by omega),bv,bv,cn (by rw[qd];exact h),cn h]
theorem aqt{C:Ch}(Q:l1 C.ab)(l:List Int){X:Se}(O:tf C.ab X.a)(Z:∀s,s<X.au.length->zy C.ab X.au s) :
 tf C.ab (cm (bset (o8 C l X).a C.ab.length))/\∀s,s<(o8 C l X).au.length->zy C.ab (o8 C l X).au s:=by
 have U:∀s,s<(o8 C l X).au.length->zy C.ab (o8 C l X).au s:=λs Y F=>by
  have z:ir (o8 C l X).au (s:Int)=if s<X.au.length/\s<C.ab.length/\ct (aq C.ab (s:Int)).kind=true/\ow C (bset X.a C.ab.length) l C.ay.length (aq C.ab (s:Int)).par.toNat=true then bset (vy C.ab X.a (s:Int)) C.ab.length else ir X.au (s:Int):=by rw[tj,ba4]
  by_cases I:s<X.au.length/\s<C.ab.length/\ct (aq C.ab (s:Int)).kind=true/\ow C (bset X.a C.ab.length) l C.ay.length (aq C.ab (s:Int)).par.toNat=true
  . rw[ao I]at z;refine⟨I.2.1,I.2.2.1,λx E=>?_⟩;rw[af4 F,z]at E;obtain⟨k,rfl,_,y⟩:=a31 E;have d:=apz y;rw[adg d]at y;have ha:X.a k=true:=by
     unfold vy at y;split at y
     . rw[bj]at y;exact y.2
     . rw[bj,bj]at y;exact y.1.1
    exact⟨ll d,O k ha⟩
  . rw[ah I]at z;have ad:s<X.au.length:=(by rw[tj,qd]at Y;exact Y);have J:=Z s ad (by rw[<-z];exact F);refine⟨J.1,J.2.1,λx E=>J.2.2 x ?_⟩;rw[af4 F,z]at E;rw[af4 (by rw[<-z];exact F)];exact E
 refine⟨λk d=>?_,U⟩;have W:=apz d;rw[adg W,ba2 C l X W,im,bj]at d;rcases d with d | d
 . exact O k d.1
 . unfold ahv at d;rw[iz]at d;obtain⟨j,_,V⟩:=d;rw[bj,bj]at V;exact am4 Q (ac7 Q U).1 _ _ k V.2.2
theorem ur{y:Func}{r u:Tmp}{ty:TypeId}{cs:Array Value}(F:y.results=#[.cell r ty,.tmp u])(d:Array Value)(w:ω)(g:Nat)(z:d.getD r undef=φ g 0)(E:(loadVar ty (δ g 0)).run prog w=.ok (.agg cs) w) :
 (results y d).run prog w=.ok (.tuple #[.agg cs,d.getD u undef]) w:=by
 simp at z;simp[results,F,z,asAddr,E]
theorem se{w:ω}{g:Nat}{a b c d e:Value}(y:cg w g 38 #[a,b,c,d,e]):(loadVar 38 (δ g 0)).run prog w=.ok (.agg #[a,b,c,d,e]) w:=run_loadVar_row (P:=prog) w g 38 38 _ (0,0) _ y underlying38 rfl (by kernel_rfl)
theorem a33{z:Value}{n k:Nat}(d:k<n):(madeCells #[z] n)[k]?=some z:=by simp[madeCells,d,Nat.mod_one]
theorem ae8{ρ:Type}{cells:ρ->List Value}{r:ρ}{z:Value}(J:cells r=[z]){w:ω}{g n:Nat}{e:TypeId}{B:Nat}(F:B<=g)(h:cg w g e (madeCells #[z] n)):cu B w e 1 cells (.slice (some (δ g 0)) n n) (List.replicate n r):=by
 refine .inr ⟨g,n,_,by rw[ch],F,h,by rw[ch];exact ai _,λi O j u I d=>?_⟩;obtain⟨y,E⟩:=bo.1 I;rw[ch]at y;rw[List.getElem_replicate]at E;subst E;rw[J]at d;cases j with
 | zero =>simp at d;subst d;rw[bq,iy];exact a33 y
 | succ j=>simp at d
theorem aa4{C:Ch}(h:chk eu C=.ok):0<=C.vars/\C.vars<=8:=by have:=(ahy h).1;unfold qo m9 at this;simp only[bj,bi]at this;exact⟨this.1.1.1,this.1.1.2⟩
theorem a3q(n:Nat):pm n (List.replicate n 0)=List.replicate n 0:=by unfold pm;rw[ch,Nat.sub_self];simp
theorem a03(t:Nat)(C:Ch)(w:ω)(hT:fs w t C)(hk:chk eu C=.ok)(bt:fewB C=true) :
 Calls prog 49 #[φ t 0] w λe w'=>κ w w'/\∃v,e=.returned v/\vm w' C.ab.length v (zq C):=by
 have ci:=(gr hk).len;have hv:=aa4 hk;obtain⟨iU,hi,b1,b2,b3⟩:=info_parts Tryz.an5;obtain⟨iL,ji,b4,b5,b6⟩:=info_parts Tryz.ah7;obtain⟨d,b9⟩:∃d:Nat,C.vars=(d:Int):=⟨C.vars.toNat,by omega⟩;have ca:C.vars.toNat=d:=by omega
 have bf:Hid (∀W:ω,(Instr.makeSlice 34 (ι (C.ab.length:Int)) (ι (C.ab.length:Int))).run prog W=.ok (.slice (some (δ W.heap.size 0)) C.ab.length C.ab.length) (W.alloc (.cells (madeCells #[.int .u32 0] C.ab.length) 33))):=aa (λW=>by have:=run_make (P:=prog) W 34 33 iU (.int .u32 0) underlying34 hi b1 .i64 .i64 (C.ab.length:Int) (C.ab.length:Int) (by omega) (by omega) (by rw[b3];omega) (by omega);rw[b2]at this;simpa [Value.cells] using this);have bb:Hid (∀W:ω,(Instr.makeSlice 35 (ι (d:Int)) (ι (d:Int))).run prog W=.ok (.slice (some (δ W.heap.size 0)) d d) (W.alloc (.cells (madeCells #[ι 0] d) 2))):=aa (λW=>by have:=run_make (P:=prog) W 35 2 iL (ι 0) underlying35 ji b4 .i64 .i64 (d:Int) (d:Int) (by omega) (by omega) (by rw[b6];omega) (by omega);rw[b5]at this;simpa [Value.cells] using this);have a0:=ap w (.cells #[.int .u32 0,.slice none 0 0,.slice none 0 0,.slice none 0 0,ι 0] 38);have b7:=aa a0;have a9:=aa (cg.new w 38 #[.int .u32 0,.slice none 0 0,.slice none 0 0,.slice none 0 0,ι 0]);have b8:=aa (yv t C _ (hT.below a0) bt);have cl:=λW=>agj t W;have ba:Hid (∀(W:ω)(v:Value)(Y V:Nat),κ w W->w.heap.size<=Y->w.heap.size<=V->cg W Y 33 (madeCells #[.int .u32 0] C.ab.length)->cg W V 2 (madeCells #[ι 0] d)->v=.agg #[.int .u32 0,.slice (some (δ Y 0)) C.ab.length C.ab.length,.slice (some (δ V 0)) d d,.slice none 0 0,ι 1]->
  κ w W/\∃v',Ending.returned v=.returned v'/\vm W C.ab.length v' (zq C)):=aa (λW v Y V hb h1 h2 h3 h4 cb=>by
  refine⟨hb,v,rfl,.slice (some (δ Y 0)) C.ab.length C.ab.length,.slice (some (δ V 0)) d d,.slice none 0 0,?_,?_,?_,br.nil _⟩
  . rw[cb]
    show _=Value.agg #[.int .u32 ((bset (λ_=>false) C.ab.length:Nat):Int),_,_,_,_]
    rw[yb]
    rfl
  . exact lp.au (B:=w.heap.size) ⟨ae8 (r:=0) rfl h1 h3,λx hx=>by rw[kz hx];decide⟩
  . show fe W _ (List.replicate C.vars.toNat 0)
    rw[ca]
    exact ez.nums (B:=w.heap.size) (ae8 (r:=0) rfl h2 h4))
 clear hT a0 hi b1 b2 b3 ji b4 b5 b6 hv hk bt;go_enter func49,ntmps49;go_wp2_with fail;refine b8.mono ?_;rintro e E⟨a1,vs,vt,he,b0⟩;obtain⟨J,O,Z,ad,rfl,rfl⟩:=b0.has.slices;rw[b9]at he;subst he;have a5:Hid (κ w E):=aa (b7.trans (a1.mono (by simp)));have bk:=aa (a9.below a1 a9.lt);have co:w.heap.size<E.heap.size:=bk.lt;clear a1 b0;go_wp2_with fail;have HY:=aa (cg.new E 25 #[ι (d:Int),.slice J C.ab.length O,.slice Z C.ay.length ad]).drew;have ax:=aa (bk.alloc (.cells #[ι (d:Int),.slice J C.ab.length O,.slice Z C.ay.length ad] 25)).drew;have ak:=aa (a5.alloc a5.size (.cells #[ι (d:Int),.slice J C.ab.length O,.slice Z C.ay.length ad] 25)).drew;refine cr (λW=>W.cell? (δ E.heap.size 0)=some (ι (d:Int))/\W.cell? (δ E.heap.size 1)=some (.slice J C.ab.length O)) [8] ?_;try simp only[Act.put,sx]
 generalize (E.alloc (.cells #[ι (d:Int),.slice J C.ab.length O,.slice Z C.ay.length ad] 25)).drew=y at *;have bs:w.heap.size<=y.heap.size:=ak.size;have cc:w.heap.size<y.heap.size:=ax.lt;obtain⟨⟨y0,y1,y2⟩,-⟩:=HY.ax;refine af 0 (φ E.heap.size 1) ?_;refine a7 1 (.slice J C.ab.length O) (⟨y0,y1⟩) ?_;refine af 2 (ι (C.ab.length:Int)) ?_;refine af 4 (φ E.heap.size 0) ?_;refine a7 5 (ι (d:Int)) (⟨y0,y1⟩) ?_;try simp only[Act.put,sx]
 refine t8 3 6 (λK z=>?orderA) (λK z=>?orderB)
 case' orderA =>
  have I:=bf.out y;have F:=aa (HY.alloc (.cells (madeCells #[.int .u32 0] C.ab.length) 33));go_simp;refine z _ _ (λ_ hS=>⟨F.ax.1.1,F.ax.1.2.1⟩) ?_;clear I;try simp only[Act.put,sx]
  refine a8 6 (λK z=>?_);go_simp;have I:=bb.out (y.alloc (.cells (madeCells #[.int .u32 0] C.ab.length) 33));have U:=aa (F.alloc (.cells (madeCells #[ι 0] d) 2));go_simp;refine z _ _ (λ_ hS=>⟨U.ax.1.1,U.ax.1.2.1⟩) ?_;clear I;try simp only[Act.put,sx]
  refine af 7 (.agg #[.int .u32 0,.slice (some (δ y.heap.size 0)) C.ab.length C.ab.length,.slice (some (δ (y.heap.size+1) 0)) d d,.slice none 0 0,ι 1]) ?_;try simp only[Act.put,sx]
  have Q:=aa ((ax.alloc (.cells (madeCells #[.int .u32 0] C.ab.length) 33)).alloc (.cells (madeCells #[ι 0] d) 2));have al:=aa ((ak.alloc bs (.cells (madeCells #[.int .u32 0] C.ab.length) 33)).alloc (by simp;omega) (.cells (madeCells #[ι 0] d) 2));have am:=aa (((cg.new y 33 (madeCells #[.int .u32 0] C.ab.length)).alloc (.cells (madeCells #[ι 0] d) 2)));have av:=aa (cg.dy (y.alloc (.cells (madeCells #[.int .u32 0] C.ab.length) 33)) 2 (madeCells #[ι 0] d) (y.heap.size+1) (by simp));generalize (y.alloc (.cells (madeCells #[.int .u32 0] C.ab.length) 33)).alloc (.cells (madeCells #[ι 0] d) 2)=w4 at *;obtain⟨⟨p0,p1,p2,p3,p4⟩,q0,q1,q2,q3,q4⟩:=d9 Q;refine a8 8 (λK z=>?_);go_simp;go_simp;refine z _ _ (λh=>absurd h (by decide)) ?_;try simp only[Act.put,sx]
  refine ce ?_;go_wp2_with fail;have a2:=(((((al.setCell (p:=(δ w.heap.size 0)) (ai _) (.int .u32 0)).setCell (p:=(δ w.heap.size 1)) (ai _) (.slice (some (δ y.heap.size 0)) C.ab.length C.ab.length)).setCell (p:=(δ w.heap.size 2)) (ai _) (.slice (some (δ (y.heap.size+1) 0)) d d)).setCell (p:=(δ w.heap.size 3)) (ai _) (.slice none 0 0)).setCell (p:=(δ w.heap.size 4)) (ai _) (ι 1));have a3:=((((am.db (g':=w.heap.size) (by omega) 0 (.int .u32 0)).db (g':=w.heap.size) (by omega) 1 (.slice (some (δ y.heap.size 0)) C.ab.length C.ab.length)).db (g':=w.heap.size) (by omega) 2 (.slice (some (δ (y.heap.size+1) 0)) d d)).db (g':=w.heap.size) (by omega) 3 (.slice none 0 0)).db (g':=w.heap.size) (by omega) 4 (ι 1);have a4:=((((av.db (g':=w.heap.size) (by omega) 0 (.int .u32 0)).db (g':=w.heap.size) (by omega) 1 (.slice (some (δ y.heap.size 0)) C.ab.length C.ab.length)).db (g':=w.heap.size) (by omega) 2 (.slice (some (δ (y.heap.size+1) 0)) d d)).db (g':=w.heap.size) (by omega) 3 (.slice none 0 0)).db (g':=w.heap.size) (by omega) 4 (ι 1);refine bodyPost_ret (l2 rfl _ _ _ rfl (se (((((Q.ca 0 _).ca 1 _).ca 2 _).ca 3 _).ca 4 _))) rfl ?_;exact ba _ _ y.heap.size (y.heap.size+1) a2 (by omega) (by omega) a3 a4 rfl
 case' orderB =>
  have I:=bb.out y;have F:=aa (HY.alloc (.cells (madeCells #[ι 0] d) 2));go_simp;refine z _ _ (λ_ hS=>⟨F.ax.1.1,F.ax.1.2.1⟩) ?_;clear I;try simp only[Act.put,sx]
  refine a8 3 (λK z=>?_);go_simp;have I:=bf.out (y.alloc (.cells (madeCells #[ι 0] d) 2));have U:=aa (F.alloc (.cells (madeCells #[.int .u32 0] C.ab.length) 33));go_simp;refine z _ _ (λ_ hS=>⟨U.ax.1.1,U.ax.1.2.1⟩) ?_;clear I;try simp only[Act.put,sx]
  refine af 7 (.agg #[.int .u32 0,.slice (some (δ (y.heap.size+1) 0)) C.ab.length C.ab.length,.slice (some (δ y.heap.size 0)) d d,.slice none 0 0,ι 1]) ?_;try simp only[Act.put,sx]
  have Q:=aa ((ax.alloc (.cells (madeCells #[ι 0] d) 2)).alloc (.cells (madeCells #[.int .u32 0] C.ab.length) 33));have al:=aa ((ak.alloc bs (.cells (madeCells #[ι 0] d) 2)).alloc (by simp;omega) (.cells (madeCells #[.int .u32 0] C.ab.length) 33));have am:=aa (cg.dy (y.alloc (.cells (madeCells #[ι 0] d) 2)) 33 (madeCells #[.int .u32 0] C.ab.length) (y.heap.size+1) (by simp));have av:=aa (((cg.new y 2 (madeCells #[ι 0] d)).alloc (.cells (madeCells #[.int .u32 0] C.ab.length) 33)));generalize (y.alloc (.cells (madeCells #[ι 0] d) 2)).alloc (.cells (madeCells #[.int .u32 0] C.ab.length) 33)=w4 at *;obtain⟨⟨p0,p1,p2,p3,p4⟩,q0,q1,q2,q3,q4⟩:=d9 Q;refine a8 8 (λK z=>?_);go_simp;go_simp;refine z _ _ (λh=>absurd h (by decide)) ?_;try simp only[Act.put,sx]
  refine ce ?_;go_wp2_with fail;have a2:=(((((al.setCell (p:=(δ w.heap.size 0)) (ai _) (.int .u32 0)).setCell (p:=(δ w.heap.size 1)) (ai _) (.slice (some (δ (y.heap.size+1) 0)) C.ab.length C.ab.length)).setCell (p:=(δ w.heap.size 2)) (ai _) (.slice (some (δ y.heap.size 0)) d d)).setCell (p:=(δ w.heap.size 3)) (ai _) (.slice none 0 0)).setCell (p:=(δ w.heap.size 4)) (ai _) (ι 1));have a3:=((((am.db (g':=w.heap.size) (by omega) 0 (.int .u32 0)).db (g':=w.heap.size) (by omega) 1 (.slice (some (δ (y.heap.size+1) 0)) C.ab.length C.ab.length)).db (g':=w.heap.size) (by omega) 2 (.slice (some (δ y.heap.size 0)) d d)).db (g':=w.heap.size) (by omega) 3 (.slice none 0 0)).db (g':=w.heap.size) (by omega) 4 (ι 1);have a4:=((((av.db (g':=w.heap.size) (by omega) 0 (.int .u32 0)).db (g':=w.heap.size) (by omega) 1 (.slice (some (δ (y.heap.size+1) 0)) C.ab.length C.ab.length)).db (g':=w.heap.size) (by omega) 2 (.slice (some (δ y.heap.size 0)) d d)).db (g':=w.heap.size) (by omega) 3 (.slice none 0 0)).db (g':=w.heap.size) (by omega) 4 (ι 1);refine bodyPost_ret (l2 rfl _ _ _ rfl (se (((((Q.ca 0 _).ca 1 _).ca 2 _).ca 3 _).ca 4 _))) rfl ?_;exact ba _ _ (y.heap.size+1) y.heap.size a2 (by omega) (by omega) a3 a4 rfl
def an2(B:Nat)(w:ω)(n:Nat)(v vo:Value)(X:Se):Prop:=∃vh ve vi,v=.agg #[.int .u32 ((bset X.a n:Nat):Int),vh,ve,vi,ι X.st]/\pu B w vh ve vi vo X
theorem pu.lower{B B':Nat}{w:ω}{vh ve vi vo:Value}{X:Se}(h:pu B w vh ve vi vo X)(d:B'<=B):pu B' w vh ve vi vo X:=⟨h.au.lower d,cu.lower h.env d,aak h.ins d,aak h.out d⟩
theorem an2.run{B:Nat}{w:ω}{n:Nat}{v vo:Value}{X:Se}(h:an2 B w n v vo X):vm w n v X:=by obtain ⟨vh,ve,vi,y,d⟩:=h;exact⟨vh,ve,vi,y,d.au.au,ez.nums d.env,(oy.fg d.ins (ai _)).list⟩
theorem an2.outs{B:Nat}{w:ω}{n:Nat}{v vo:Value}{X:Se}(h:an2 B w n v vo X):abs w vo X.out:=by obtain ⟨vh,ve,vi,y,d⟩:=h;exact iw.outs d.out
def bcu(C:Ch)(w:ω)(e:Ending)(d:ω):Prop:=κ w d/\∃v vo,e=.returned (.tuple #[v,vo])/\an2 w.heap.size d C.ab.length v vo (aap C)
theorem a9r(C:Ch):(⟨(zq C).a,pm C.ab.length (zq C).au,(zq C).env,(zq C).ins,(zq C).st,[]⟩:Se)=zq C:=by unfold zq;simp only;rw[a3q]
theorem au9(t:Nat)(C:Ch)(w:ω)(hL:ju w)(hT:fs w t C)(hk:chk eu C=.ok)(ak:fewB C=true) :
 Calls prog 22 #[φ t 0] w (bcu C w):=by
 have a3:=gr hk;have dy:=a3.len;have a2:=a3.pos;have hv:=aa4 hk;have ax:=ap w (.cells #[.int .u32 0,.slice none 0 0,.slice none 0 0,.slice none 0 0,ι 0] 38);have a4:=aa ax;have a9:=aa (cg.new w 38 #[.int .u32 0,.slice none 0 0,.slice none 0 0,.slice none 0 0,ι 0]);have b9:=aa (a03 t C _ (hT.below ax) hk ak);have d0:=λW=>agj t W;have HL:=aa hL;have HT:=aa hT;have HV:=aa (ad8 hv);have bs:=aa (λ(W:ω)(vh ve vi:Value)(h:κ w W)(h1:km W vh (zq C).au)(h2:fe W ve (zq C).env)(h3:dd W vi (zq C).ins)=>af3 t C W (hL.after h) (hT.below h) hk ak (zq C).a vh ve vi (zq C).au (zq C).env (zq C).ins (zq C).st h1 (by show (List.replicate _ _).length<=_;rw[ch];omega) h2 (ad8 hv).env h3 (by show ([]:List Int).length<=_;simp));rw[a9r]at bs;have ba:Hid (aap C=nd C.ab (λk=>(ae1 C.ab (enS C.ab ((0:Nat):Int) (zq C)).au 0 (aq C.ab ((0:Nat):Int)).ip).a k&&!(enS C.ab ((0:Nat):Int) (zq C)).a k) C.ab.length (enS C.ab ((0:Nat):Int) (zq C))):=aa rfl;have bb:Hid ((enS C.ab ((0:Nat):Int) (zq C)).au.length<=1000):=aa (by rw[aas];show (List.replicate _ _).length<=_;rw[ch];omega);have cc:Hid ((aq C.ab ((0:Nat):Int)).ip.length<=1000):=aa (by have:=(fx ak).2.2.1 0 a2;unfold p7 at this;simp only[bj,bi]at this;have:=this.2;show(C.ab.getD (((0:Nat):Int)).toNat pz).ip.length<=1000;exact a6 this (by omega));clear hL hT hk ak ax a3 hv;go_enter func22,ntmps22;go_wp2_with fail;refine b9.mono ?_;rintro e w2⟨a0,v,rfl,c7⟩;obtain⟨vh,ve,vi,rfl,h1,h2,h3⟩:=c7;have ad:=aa (a4.trans (a0.mono a4.size));have bt:=aa (a9.below a0 a9.lt);have co:=aa (bs w2 vh ve vi ad h1 h2 h3);clear a0 h1 h2 h3;go_wp2_with fail;refine co.mono ?_;rintro e w3⟨w0,g,vs,vt,d6,d3,ek,rfl,al,hF,b0⟩;have cv:Hid (w.heap.size<=w0.heap.size):=aa (a6 ad.size al.size);have HF:=aa hF;have a5:=aa (ad.trans (al.mono ad.size));have am:=aa (bt.below al bt.lt);have cb:=aa (agq hF b0 HV (by omega) 0 a2);clear al hF b0;go_wp2_with fail;refine cb.mono ?_;rintro e w4⟨rfl,eb,d4,el,ev,J⟩;have bf:=aa (ad2 (λs=>(HF.acts s).1.1) ((0:Nat):Int) HV);obtain⟨X1,b1⟩:∃X1,enS C.ab ((0:Nat):Int) (zq C)=X1:=⟨_,rfl⟩;rw[b1]at J ba bb bf;have bk:=aa J;obtain⟨b,o,ds,ui,ue,ux,db,d1,c4,b4,a1⟩:=HF.has.st a2;subst db;obtain⟨-,-,c2,-,-⟩:=b4.below J.below c4;have c1:w4.cell? (δ b (o+2))=some ui:=by simpa using c2
 have ci:=aa (a1.1.below J.below);obtain⟨iA,d2,rfl,c5⟩:=br.slice a1.1;obtain⟨⟨x0,x1,x2,x3,x4⟩,x5,x6,x7,x8,x9⟩:=J.cells;have b8:=aa (alw HF bk bb 0 _ _ ci cc);clear J c2 b4 a1 c5 b1;generalize (aq C.ab ((0:Nat):Int)).ip=IL at *;go_wp2_with fail;refine b8.mono ?_;rintro e w5⟨rfl,b2⟩;have cl:=aa (bk.after b2);have ca:=aa (agr HF cl bf (by omega) (ae1 C.ab X1.au 0 IL).a);clear b2 x0 x1 x2 x3 x4 x5 x6 x7 x8 x9 c1;go_wp2_with fail;refine ca.mono ?_;rintro e w6⟨rfl,eg,d5,er,ex,d⟩;rw[<-ba.out]at d;obtain⟨F,I,rfl⟩:=d.rows.au.slice;obtain⟨z,E,rfl⟩:=d.rows.env.slice;obtain⟨O,Q,rfl⟩:=cd d.rows.ins;obtain⟨b5,b6,rfl⟩:=cd d.rows.out;have U:=aa d.drew;have av:=aa ((am.below d.below am.lt).drew);have b7:=aa ((a5.trans (d.below.mono a5.size)).drew);clear d;obtain⟨Y,V⟩:∃Y,aap C=Y:=⟨_,rfl⟩;rw[V]at U;have c0:=aa V;clear V;go_wp2_with fail;obtain⟨⟨-,-,-,-,x4⟩,x5,x6,x7,x8,x9⟩:=U.cells;obtain⟨⟨p0,p1,p2,p3,p4⟩,q0,q1,q2,q3,q4⟩:=d9 av;refine cr (λW=>(W.cell? (δ g 4)=some (.int .u32 ((bset Y.a C.ab.length:Nat):Int))/\W.cell? (δ g 5)=some (.slice F Y.au.length I)/\W.cell? (δ g 6)=some (.slice z Y.env.length E)/\W.cell? (δ g 7)=some (.slice O Y.ins.length Q)/\W.cell? (δ g 8)=some (ι Y.st))/\W.cell? (δ g 9)=some (.slice b5 Y.out.length b6)) [] ?_;try simp only[Act.put,sx]
 generalize w6.drew=w7 at *;refine af 0 (φ g 0) ?_;refine af 1 (φ g 0) ?_;refine af 2 (φ g 4) ?_;refine a7 3 (.agg #[.int .u32 ((bset Y.a C.ab.length:Nat):Int),.slice F Y.au.length I,.slice z Y.env.length E,.slice O Y.ins.length Q,ι Y.st]) (⟨⟨x4,x5,x6,x7,x8⟩,x9⟩) ?_;refine af 4 (φ g 0) ?_;refine af 5 (φ g 0) ?_;refine af 6 (φ g 9) ?_;refine a7 7 (.slice b5 Y.out.length b6) (⟨⟨x4,x5,x6,x7,x8⟩,x9⟩) ?_;try simp only[Act.put,sx]
 have Z:g≠w.heap.size:=by have:=U.ge;have:=am.lt;omega
 have b3:=((((U.blk.db Z 0 (.int .u32 ((bset Y.a C.ab.length:Nat):Int))).db Z 1 (.slice F Y.au.length I)).db Z 2 (.slice z Y.env.length E)).db Z 3 (.slice O Y.ins.length Q)).db Z 4 (ι Y.st);have y:=aa b3;clear b3;refine a8 8 (λK HK=>?_);go_simp;go_simp;refine HK _ _ (λ_ hS=>⟨⟨y.cell 4,y.cell 5,y.cell 6,y.cell 7,y.cell 8⟩,y.cell 9⟩) ?_;try simp only[Act.put,sx]
 refine a8 9 (λK HK=>?_);go_simp;refine HK _ _ (λ_ hS=>hS) ?_;try simp only[Act.put,sx]
 refine ce ?_;go_wp2_with fail;have r1:=U.rows.apart av (by decide) (by decide) (by decide) (by decide) 0 (.int .u32 ((bset Y.a C.ab.length:Nat):Int));have k1:=av.ca 0 (.int .u32 ((bset Y.a C.ab.length:Nat):Int));have r2:=r1.apart k1 (by decide) (by decide) (by decide) (by decide) 1 (.slice F Y.au.length I);have k2:=k1.ca 1 (.slice F Y.au.length I);have r3:=r2.apart k2 (by decide) (by decide) (by decide) (by decide) 2 (.slice z Y.env.length E);have k3:=k2.ca 2 (.slice z Y.env.length E);have r4:=r3.apart k3 (by decide) (by decide) (by decide) (by decide) 3 (.slice O Y.ins.length Q);have k4:=k3.ca 3 (.slice O Y.ins.length Q);have r5:=r4.apart k4 (by decide) (by decide) (by decide) (by decide) 4 (ι Y.st);have k5:=k4.ca 4 (ι Y.st);have c3:=(((((b7.setCell (p:=(δ w.heap.size 0)) (ai _) (.int .u32 ((bset Y.a C.ab.length:Nat):Int))).setCell (p:=(δ w.heap.size 1)) (ai _) (.slice F Y.au.length I)).setCell (p:=(δ w.heap.size 2)) (ai _) (.slice z Y.env.length E)).setCell (p:=(δ w.heap.size 3)) (ai _) (.slice O Y.ins.length Q)).setCell (p:=(δ w.heap.size 4)) (ai _) (ι Y.st));refine bodyPost_ret (ur rfl _ _ _ rfl (se k5)) rfl ?_;have V:=c0.out;subst V;exact⟨c3,_,_,rfl,_,_,_,rfl,r5.lower cv⟩
end Go.Proofs.YtpekhdfmmkmjaaaGreatDoor
