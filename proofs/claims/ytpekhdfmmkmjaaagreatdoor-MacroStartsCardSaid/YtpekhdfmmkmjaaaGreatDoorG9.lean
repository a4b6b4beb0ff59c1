/- Texts of the proof, put together. -/
import Derived.Test.YtpekhdfmmkmjaaaGreatDoorG8
namespace Go.Proofs.YtpekhdfmmkmjaaaGreatDoor
set_option maxHeartbeats 4000000
set_option maxRecDepth 100000
set_option linter.unusedVariables false
open Go.Proofs.Tryz
def gdA(a:Ans)(env:List Int):Bool×Bool :=
 match a with
  | .toks o=>match ans ⟨false,env,0⟩ o with
   | .ok k n=>if k=2 then (decide (n=1),false) else (false,true)
   | .bad _=>(false,true)
  | .form _=>(false,true)
  | .large=>(false,true)
def gdV(g:ByteArray)(env:List Int):Bool×Bool:=if g.size=0 then (true,false) else gdA (fi g.data.toList) env
def uv(env:List Int)(ev:Int)(t:Tr):Bool×Bool:=if t.ev=ev then gdV t.guard env else (false,false)
theorem a84(a:Ans)(env:List Int)(h:(gdA a env).1=true):(gdA a env).2=false:=by
 unfold gdA at h ⊢;cases a with
 | toks o =>
  simp only at h ⊢
  cases d:ans ⟨false,env,0⟩ o with
  | ok k n =>
   rw[d]at h
   simp only at h ⊢
   split at h
   . rename_i y;rw[ao y]
   . cases h
  | bad c=>rw[d]at h;cases h
 | form k=>cases h
 | large=>cases h
theorem a71(env:List Int)(ev:Int)(t:Tr)(h:(uv env ev t).1=true):(uv env ev t).2=false:=by
 unfold uv gdV at h ⊢;split at h
 . rename_i y;rw[ao y];split at h
   . rename_i d;rw[ao d]
   . rename_i d;rw[ah d];exact a84 _ _ h
 . cases h
def es(R:List Tr)(i:Int):Tr:=R.getD i.toNat mt
def s7(R:List Tr)(i:Int):Bool:=decide (0<=i)&&decide (i<(R.length:Int))
theorem ac1{R:List Tr}{i:Int}:s7 R i=true↔0<=i/\i<(R.length:Int):=by unfold s7;simp
theorem yo{R:List Tr}{i:Int}(h:s7 R i=true):∃k:Nat,i=(k:Int)/\k<R.length:=by have:=ac1.1 h;exact⟨i.toNat,by omega,by omega⟩
theorem acd{R:List Tr}{k:Nat}(h:k<R.length):R[k]?=some (es R (k:Int)):=by unfold es;simp[List.getD,ae h]
section
variable (env:List Int) (ev:Int)
def zb(s:Int):List Tr->Nat->Nat->Int×Nat
 | [],_,n=>(-1,n)
 | t::r,k,n=>if t.src=s then (if (uv env ev t).1=true then ((k:Int),n) else zb s r (k+1) (n+if (uv env ev t).2=true then 1 else 0)) else zb s r (k+1) n
def yt(R:List Tr):List Int->Nat->Int×Nat
 | [],n=>(-1,n)
 | s::r,n=>if (zb env ev s R 0 n).1=-1 then yt R r (zb env ev s R 0 n).2 else zb env ev s R 0 n
theorem ajp(s:Int):∀(r:List Tr)(k n m:Nat),zb env ev s r k (n+m)=((zb env ev s r k m).1,n+(zb env ev s r k m).2)
 | [],k,n,m=>rfl
 | t::r,k,n,m=>by
  rw[zb,zb];split
  . split
    . rfl
    . rw[Nat.add_assoc,ajp s r]
  . rw[ajp s r]
theorem axt(R:List Tr):∀(l:List Int)(n m:Nat),yt env ev R l (n+m)=((yt env ev R l m).1,n+(yt env ev R l m).2)
 | [],n,m=>rfl
 | s::r,n,m=>by
  rw[yt,yt,ajp];simp only;split
  . rw[axt R r]
  . rfl
theorem aph(s:Int):∀(r:List Tr)(k n:Nat),(zb env ev s r k n).2<=n+r.length
 | [],k,n=>by simp[zb]
 | t::r,k,n=>by
  rw[zb,bm];split
  . split
    . simp only;omega
    . refine a6 (aph s r _ _) ?_;split<;>omega
  . exact a6 (aph s r _ _) (by omega)
theorem a4v(R:List Tr):∀(l:List Int)(n:Nat),(yt env ev R l n).2<=n+l.length*R.length
 | [],n=>by simp[yt]
 | s::r,n=>by
  rw[yt,bm,od];have:=aph env ev s R 0 n;split
  . exact a6 (a4v R r _) (by omega)
  . omega
theorem api(s:Int)(R:List Tr):∀(r:List Tr)(k n:Nat),(∀j t,r[j]?=some t->R[k+j]?=some t)->(zb env ev s r k n).1≠-1->s7 R (zb env ev s r k n).1=true/\(uv env ev (es R (zb env ev s r k n).1)).1=true
 | [],k,n,_,h=>absurd rfl h
 | t::r,k,n,F,h=>by
  rw[zb]at h ⊢;have E:∀j u,r[j]?=some u->R[k+1+j]?=some u:=λj u J=>by have:=F (j+1) u (by simpa using J);rwa [show k+(j+1)=k+1+j by omega]at this
  split at h
  . rename_i z;rw[ao z];split at h
    . rename_i y;rw[ao y];have d:=F 0 t rfl;rw[iy]at d;have I:=(bo.1 d).1;refine⟨ac1.2 ⟨by simp,by simp only;omega⟩,?_⟩;rw[acd I]at d;injection d with d;simp only;rw[d];exact y
    . rename_i y;rw[ah y];exact api s R r _ _ E h
  . rename_i z;rw[ah z];exact api s R r _ _ E h
theorem avp(R:List Tr):∀(l:List Int)(n:Nat),(yt env ev R l n).1≠-1->s7 R (yt env ev R l n).1=true/\(uv env ev (es R (yt env ev R l n).1)).1=true
 | [],n,h=>absurd rfl h
 | s::r,n,h=>by
  rw[yt]at h ⊢;split at h
  . rename_i d;rw[ao d];exact avp R r _ h
  . rename_i d;rw[ah d];exact api env ev s R R 0 n (λj t h=>by rwa [j2]) h
end
def zl(k:Int):Bool:=decide (k=1)||decide (k=4)
def abw(S:List St)(n:Nat)(k:Nat):Bool:=cm n k&&zl (aq S (k:Int)).kind
def lvU(S:List St)(n k:Nat):List Int:=((List.range k).filter (abw S n)).map λj:Nat=>(j:Int)
def lvL(S:List St)(n:Nat):List Int:=lvU S n S.length
theorem arx(S:List St)(n k:Nat):lvU S n (k+1)=lvU S n k++if abw S n k=true then [(k:Int)] else []:=by
 unfold lvU;rw[mm,oe,ik];by_cases h:abw S n k=true
 . simp[h]
 . simp[h]
theorem adu(S:List St)(n k:Nat):(lvU S n k).length<=k:=by unfold lvU;rw[dm];simpa using kj (abw S n) (List.range k)
theorem a34{S:List St}{n:Nat}{x:Int}(h:x∈lvL S n):c6 S x=true:=by unfold lvL lvU at h;obtain⟨k,d,rfl⟩:=gt.1 h;have:=dk.1 (ey.1 d).1;unfold c6;simp;omega
def vu(S:List St)(s:Int):List Int:=s::wx S s
section
variable (C:Ch) (env:List Int) (ev:Int)
def uw(l:List Int)(i:Int):List Int:=if i=-1\/l.contains i=true then l else l ++ [i]
def la(a:List Int×Nat)(s:Int):List Int×Nat :=
 (uw a.1 (yt env ev C.ay (vu C.ab s) 0).1,a.2+(yt env ev C.ay (vu C.ab s) 0).2)
def gaL(n:Nat):List Int×Nat:=(lvL C.ab n).foldl (la C env ev) ([],0)
theorem asn:∀(l:List Int)(a:List Int×Nat),(∀i∈a.1,s7 C.ay i=true/\(uv env ev (es C.ay i)).1=true)->∀i∈(l.foldl (la C env ev) a).1,s7 C.ay i=true/\(uv env ev (es C.ay i)).1=true
 | [],a,h=>h
 | s::r,a,h=>by
  rw[cx];refine asn r _ λi d=>?_;unfold la uw at d;simp only at d;split at d
  . exact h i d
  . rename_i E;rcases j9.1 d with y | y
    . exact h i y
    . obtain rfl:=cf.1 y;exact avp env ev C.ay _ 0 (λz=>E (.inl z))
theorem ann(n:Nat):∀i∈(gaL C env ev n).1,s7 C.ay i=true/\(uv env ev (es C.ay i)).1=true :=
 asn C env ev _ _ (λi d=>by cases d)
theorem azx(l:List Int)(i:Int):(uw l i).length<=l.length+1:=by
 unfold uw;split
 . omega
 . simp
end
structure nk where
 num:Int
 src:Int
 left:Nat
def clB(k one:nk):Bool:=decide (k.left &&& one.left≠0)
def aic(S:List St)(one k:nk):Bool:=clB k one&&!jc S one.src k.src
def yq(S:List St)(d:List nk)(one:nk):List nk:=if d.any (aic S one)=true then d else d.filter (λk=>!clB k one) ++ [one]
section
variable (C:Ch) (lf:Int→Nat)
def aat(i:Int):nk:=⟨i,(es C.ay i).src,lf i⟩
def ak8(d:List nk)(i:Int):Bool:=d.any λk=>decide (k.num=i)
def m4(d:List nk)(i:Int):List nk:=if s7 C.ay i=true/\ak8 d i=false then yq C.ab d (aat C lf i) else d
def siL(l:List Int):List nk:=l.foldl (m4 C lf) []
def Apt(d:List nk):Prop:=d.Pairwise λa b=>clB a b=false/\a.num≠b.num
theorem ask{y:List nk}{one x:nk}(h:x∈yq C.ab y one):x∈y\/x=one:=by
 unfold yq at h;split at h
 . exact .inl h
 . rcases j9.1 h with d | d
   . exact .inl (ey.1 d).1
   . exact .inr (cf.1 d)
theorem a4l{y:List nk}{one:nk}(h:Apt y)(d:ak8 y one.num=false):Apt (yq C.ab y one):=by
 unfold yq;split
 . exact h
 . refine List.pairwise_append.2 ⟨h.sublist List.filter_sublist,List.pairwise_singleton _ _,λa F b I=>?_⟩;obtain rfl:=cf.1 I;obtain⟨z,E⟩:=ey.1 F;refine⟨by simpa using E,λJ=>?_⟩;unfold ak8 at d;rw[gy]at d;exact d a z (by simpa using J)
theorem asl(d:List nk)(one:nk):(yq C.ab d one).length<=d.length+1:=by
 unfold yq;split
 . omega
 . rw[aw];have:=kj (λk=>!clB k one) d;simp;omega
theorem aol(y:List Int):∀(l:List Int)(d:List nk),(∀i∈l,i∈y)->Apt d->(∀x∈d,x=aat C lf x.num/\x.num∈y/\s7 C.ay x.num=true)->
 Apt (l.foldl (m4 C lf) d)/\∀x∈l.foldl (m4 C lf) d,x=aat C lf x.num/\x.num∈y/\s7 C.ay x.num=true
 | [],d,_,z,E=>⟨z,E⟩
 | i::r,d,F,z,E=>by
  rw[cx];have I:∀j∈r,j∈y:=λj O=>F j (fo _ O);unfold m4;split
  . rename_i J;refine aol y r _ I (a4l C z J.2) λx Q=>?_;rcases ask C Q with h | rfl
    . exact E x h
    . exact⟨rfl,F i (ig ..),J.1⟩
  . exact aol y r d I z E
theorem a7p(l:List Int):Apt (siL C lf l)/\∀x∈siL C lf l,x=aat C lf x.num/\x.num∈l/\s7 C.ay x.num=true :=
 aol C lf l l [] (λ_ h=>h) List.Pairwise.nil (λx h=>by cases h)
theorem a23:∀(l:List Int)(d:List nk),(l.foldl (m4 C lf) d).length<=d.length+l.length
 | [],d=>by simp
 | i::r,d=>by
  rw[cx,bm];refine a6 (a23 r _) ?_;have:(m4 C lf d i).length<=d.length+1:=by
   unfold m4;split
   . exact asl C _ _
   . omega
  omega
end
open Go.ChangeShapes Go.WideShapes Go.ChangeAt Go.RowKit
theorem ag1(k:Nat)(z:k<=31)(w:ω):Calls prog 207 #[ι (k:Int)] w λe E=>e=.returned (.int .u32 ((2^k:Nat):Int))/\w=E:=by
 have F:decide ((k:Int)<0)=false:=by simp
 go_enter func207,ntmps207;go_wp2;go_ret;refine⟨cw ?_,rfl⟩;have d:(2:Nat)^k<=2^31:=ic (by decide) z;have y:((2:Int)^k)=((2^k:Nat):Int):=by simp
 rw[show (2:Nat)^31=2147483648 by decide]at d;rw[y];generalize 2^k=m at *;omega
theorem aip(K:Int)(w:ω):Calls prog 273 #[ι K] w λe d=>e=.returned (.bool (ct K))/\w=d:=by
 by_cases h:K=5
 . subst h;go_enter func273,ntmps273;go_wp2;go_ret;exact⟨rfl,rfl⟩
 . have y:(K==5)=false:=(by simpa using h);go_enter func273,ntmps273;go_wp2;go_ret;exact⟨az (by unfold ct;simp[h];rfl),rfl⟩
def tx(S:List St)(s:Int):Int:=if ct (kt S s)=true then lu S s else s
def gd(S:List St)(l:List Int):List Int:=l.map (tx S)
theorem alc(S:List St)(l:List Int):(gd S l).length=l.length:=by simp[gd]
theorem avh{S:List St}{s:Int}(h:ct (kt S s)=true):c6 S s=true/\kt S s=(aq S s).kind:=by
 unfold kt at h ⊢;cases d:c6 S s with
 | true=>exact ⟨rfl,ao rfl⟩
 | false=>rw[d]at h;simp[ct]at h
theorem a83{S:List St}(y:l1 S){s:Int}(h:ct (kt S s)=true):0<=lu S s:=by
 obtain⟨d,E⟩:=avh h;have I:=fj.1 d;have F:s≠0:=by intro z;subst z;rw[E,y.first]at h;simp[ct]at h
 exact y.up s d (by omega)
theorem afs{S:List St}{s:Int}(h:0<=lu S s):(wx S s)[0]?=some (lu S s):=by unfold wx;rw[qm,ah (by omega)];rfl
theorem a0i(g:Nat)(v:Value)(L:List Int)(C:Ch)(w:ω)(hT:fs w g C)(U:l1 C.ab)(hR:p8 C.ab)(hv:dd w v L)(hL:L.length<=1000) :
 Calls prog 252 #[φ g 0,v] w (ab0 (gd C.ab L) w):=by
 obtain⟨i0,hi,ba,bb,bf⟩:=info_parts Tryz.info3;have HI:=aa hi;have a0:=aa ba;have a1:=aa bb;have a2:=aa bf;have am:=aa (λ(W:ω)(h:κ w W)(s:Int)=>tu g s C W (hT.below h) (by have:=U.len;omega));have b0:=aa (λ(W:ω)(h:κ w W)(s:Int)=>aj2 g s C W (hT.below h) (by have:=U.len;omega) hR);have bs:=aa U;have bk:=aa (λl=>alc C.ab l);obtain⟨A,b3,rfl,b8,he⟩:=hv;have HE:=aa he;clear hi ba bb bf he hT hR U;go_enter func252,ntmps252;go_wp2_with fail;go_loopw [5,10] (λv i wr=>∃k:Nat,k<=L.length/\i=ι (k:Int)/\κ w wr/\Hid (wr.ownsRow w.heap.size 3 1 v (gd C.ab (L.take k)).length (bg (gd C.ab (L.take k))))) (λ_ i _=>L.length-(intOf i).toNat)
 case atStart=>exact ⟨0,ar _,rfl,ag _ _,aa (bd _ _ _ _)⟩
 case round =>
  obtain⟨k,hk,rfl,Q,J⟩:=hrel;obtain⟨d,rfl⟩:∃d:ω,d=wr:=⟨_,rfl⟩;have z:=aa Q;by_cases a5:k<L.length
  . obtain⟨b,o,rfl,b2,hc⟩:=HE.out k _ (ae a5);have c0:d.cell? (δ b (o+k))=some (ι L[k]):=(by have:=d7.keeps w d b _ _ Q b2 hc;rwa [bq]at this);have ca:(gd C.ab (L.take k)).length<=1000:=(by rw[bk.out,jo];omega);have ax:Hid (gd C.ab (L.take (k+1))=gd C.ab (L.take k) ++ [tx C.ab L[k]]):=aa (by unfold gd;rw[cp a5,ik];rfl);have b6:w.heap.size<=d.heap.size:=Q.size;generalize L[k]=x at *;generalize gd C.ab (L.take k)=G at *;clear hc Q;cases E:ct (kt C.ab x) with
    | true =>
     have HH:=aa E;have al:=a83 bs E;have bt:=aa (afs al);have Z:Hid (tx C.ab x=lu C.ab x):=aa (by unfold tx;rw[ao E]);have cb:0<(wx C.ab x).length:=(bo.1 (afs al)).1;clear E al;go_wp2_with fail;refine(am d z x).mono ?_;rintro e F⟨rfl,rfl⟩;go_wp2_with fail;refine(aip _ _).mono ?_;rintro e F⟨rfl,rfl⟩;rw[HH.out];go_wp2_with fail;refine(b0 d z x).mono ?_;rintro e F⟨ak,v1,rfl,a9⟩;obtain⟨A1,b4,rfl,b9,a4⟩:=dc a9;obtain⟨b1,o1,rfl,b5,a3⟩:=a4 0 _ bt;have d0:F.cell? (δ b1 o1)=some (ι (lu C.ab x)):=(by have:=a3;unfold d7 at this;rwa [Nat.zero_mul,iy]at this);have V:=aa (z.trans (ak.mono z.size));have av:=aa (bl J.out ak);have b7:w.heap.size<=F.heap.size:=V.size;generalize lu C.ab x=y at *;generalize (wx C.ab x).length=ul at *;clear ak a9 a4 a3 c0;go_wp2_with (at_builtin;refine wpList_append_own_at _ rfl _ _ 36 rfl (w.heap.size) 3 i0 (ι 0) 1 8 underlying36 HI a0 a1 a2 rfl (by decide) _ _ _ rfl (av.alloc _) (δ F.heap.size 0) 1 1 [ι y] rfl rfl ?c1 ?c2 ?c3 ?c4 ?c5 ?_)
     case c1=>exact g8 _ _ _ _ (by simp)
     case c2=>exact fl _
     case c3=>unfold maxLen;omega
     case c4=>omega
     case c5=>simp;omega
     intro v' w2 O I _ _;have Y:=aa (ck (V.alloc V.size _) I (by simp;omega) (λg hg=>by have:=(av.lt g hg).1;simpa using this));have ad:=aa O;clear O I;go_wp2;go_roundw
     case rel=>exact ⟨k+1,by omega,by go_num,Y,aa (by rw[ax.out,Z.out,dp];simpa using ad.out)⟩
     case measure=>simp[intOf];omega
    | false =>
     have HH:=aa E;have Z:Hid (tx C.ab x=x):=aa (by unfold tx;rw[ah (by rw[E];simp)]);clear E;go_wp2_with fail;refine(am d z x).mono ?_;rintro e F⟨rfl,rfl⟩;go_wp2_with fail;refine(aip _ _).mono ?_;rintro e F⟨rfl,rfl⟩;rw[HH.out];go_wp2_with (at_builtin;refine wpList_append_own_at _ rfl _ _ 36 rfl (w.heap.size) 3 i0 (ι 0) 1 8 underlying36 HI a0 a1 a2 rfl (by decide) _ _ _ rfl (J.out.alloc _) (δ d.heap.size 0) 1 1 [ι x] rfl rfl ?c1 ?c2 ?c3 ?c4 ?c5 ?_)
     case c1=>exact g8 _ _ _ _ (by simp)
     case c2=>exact fl _
     case c3=>unfold maxLen;omega
     case c4=>omega
     case c5=>simp;omega
     intro v' w2 O I _ _;have Y:=aa (ck (z.alloc z.size _) I (by simp;omega) (λg hg=>by have:=(J.out.lt g hg).1;simpa using this));have ad:=aa O;clear O I;go_wp2;go_roundw
     case rel=>exact ⟨k+1,by omega,by go_num,Y,aa (by rw[ax.out,Z.out,dp];simpa using ad.out)⟩
     case measure=>simp[intOf];omega
  . obtain rfl:k=L.length:=(by omega);go_wp2;go_ret;exact⟨z,_,rfl,by rw[ed]at J;exact J.out⟩
theorem awh(g:Nat)(s:Int)(v:Value)(L:List Int)(C:Ch)(w:ω)(O:fs w g C)(hl:C.ab.length<=1000)(J:p8 C.ab)(hv:dd w v L)(hL:dw L.length) :
 Calls prog 253 #[φ g 0,v,ι s] w λe w'=>e=.returned (.bool (wu L.length λi=>jc C.ab (L.getD i 0) s))/\w=w':=by
 have E:=aa (λ(a:Int)=>adx g a s C w O hl J);obtain⟨A,al,rfl,av,U⟩:=hv;unfold dw at hL;have Z:=aa U;have Y:=aa (λi d h=>oa (n:=L.length) (f:=λi=>jc C.ab (L.getD i 0) s) i d h);have ad:=aa (λh=>nh (n:=L.length) (f:=λi=>jc C.ab (L.getD i 0) s) h);generalize (wu L.length λi=>jc C.ab (L.getD i 0) s)=R at *;clear U O J;go_enter func253,ntmps253;go_wp2_with fail;go_loopw [11] (λi wr=>∃k:Nat,k<=L.length/\i=ι (k:Int)/\Hid (∀j,j<k->jc C.ab (L.getD j 0) s=true)/\wr=w) (λi _=>L.length-(intOf i).toNat)
 case atStart=>exact ⟨0,ar _,rfl,aa (λj V=>absurd V (Nat.not_lt_zero _)),rfl⟩
 case round =>
  obtain⟨k,hk,rfl,F,rfl⟩:=hrel;by_cases z:k<L.length
  . obtain⟨b,o,rfl,am,Q⟩:=Z.out k _ (ae z);have c0:wr.cell? (δ b (o+k))=some (ι L[k]):=(by have:=Q;unfold d7 at this;rwa [bq]at this);have W:L.getD k 0=L[k]:=(by simp[List.getD,ae z]);have I:=aa W;generalize L[k]=x at *;clear Q W;cases d:jc C.ab x s with
    | false =>have y:=aa d;clear d;go_wp2_with fail;refine(E _).mono ?_;rintro e w1⟨rfl,rfl⟩;rw[y.out];go_wp2;go_ret;exact⟨az (Y k z (by rw[I.out];exact y)).symm,rfl⟩
    | true =>
     have y:=aa d;clear d;go_wp2_with fail;refine(E _).mono ?_;rintro e w1⟨rfl,rfl⟩;rw[y.out];go_wp2;go_roundw
     case rel=>exact ⟨k+1,by omega,by go_num,aa (λj V=>by
      by_cases ak:j=k
      . subst ak;rw[I.out];exact y
      . exact F j (by omega)),trivial⟩
     case measure=>simp[intOf];omega
  . obtain rfl:k=L.length:=(by omega);go_wp2;go_ret;exact⟨az (ad F).symm,rfl⟩
theorem cu.old{ρ:Type}{B:Nat}{w:ω}{e n g:Nat}{cells:ρ->List Value}{v:Value}{rs:List ρ}(h:cu B w e n cells v rs)(O:g<B)(j:Nat)(u:Value):cu B (w.setCell (δ g j) u) e n cells v rs:=by
 rcases h with h | ⟨d,y,z,E,F,I,J⟩
 . exact .inl h
 . refine .inr ⟨d,y,z,E,F,?_,J⟩;show _=_;rw[cz w (δ g j) u d (by show d≠g;omega)];exact I
theorem th.old{B g:Nat}{w:ω}{vs vt:Value}{C:Ch}(h:th B w vs vt C)(d:g<B)(j:Nat)(u:Value):th B (w.setCell (δ g j) u) vs vt C:=by obtain ⟨J,O,F,I,z,E⟩:=h;exact⟨J,O,F,I,⟨z.1.old d j u,λr y=>⟨cu.old (z.2 r y).1 d j u,cu.old (z.2 r y).2.1 d j u,cu.old (z.2 r y).2.2 d j u⟩⟩,E.1.old d j u,λr y=>⟨cu.old (E.2 r y).1 d j u,cu.old (E.2 r y).2 d j u⟩⟩
theorem ao4{w:ω}{g:Nat}{a b c d e f:Value}(y:cg w g 62 #[a,b,c,d,e,f]):(loadVar 62 (δ g 0)).run prog w=.ok (.agg #[a,b,c,d,e,f]) w:=run_loadVar_row (P:=prog) w g 62 62 _ (0,0) _ y underlying62 rfl (by kernel_rfl)
theorem adz(a b c:Value)(w:ω):Sem.run prog (Instr.field 25 (.agg #[a,b,c]) 2) w=.ok c w:=by unfold Instr.field;have h:=underlying25;simp[go_sem,asAgg]
abbrev a15:Obj:=.cells #[ι 0,ι 0,.string ⟨#[]⟩,.slice none 0 0,.bool false,.slice none 0 0] 62
theorem cg.a93{w:ω}{g:Nat}{t:TypeId}{y z E F I J:Value}(h:cg w g t #[y,z,E,F,I,J])(a b c d e f:Value) :
 cg ((((((w.setCell (δ g 0) a).setCell (δ g 1) b).setCell (δ g 2) c).setCell (δ g 3) d).setCell (δ g 4) e).setCell (δ g 5) f) g t #[a,b,c,d,e,f]:=(((((h.ca 0 a).ca 1 b).ca 2 c).ca 3 d).ca 4 e).ca 5 f
theorem th.bc3{B g:Nat}{w:ω}{vs vt:Value}{C:Ch}(h:th B w vs vt C)(y:g<B)(a b c d e f:Value) :
 th B ((((((w.setCell (δ g 0) a).setCell (δ g 1) b).setCell (δ g 2) c).setCell (δ g 3) d).setCell (δ g 4) e).setCell (δ g 5) f) vs vt C:=(((((h.old y 0 a).old y 1 b).old y 2 c).old y 3 d).old y 4 e).old y 5 f
theorem awe{B g:Nat}{z w:ω}(h:Below B z w)(y:B<=g)(a b c d e f:Value) :
 Below B z ((((((w.setCell (δ g 0) a).setCell (δ g 1) b).setCell (δ g 2) c).setCell (δ g 3) d).setCell (δ g 4) e).setCell (δ g 5) f) :=
 (((((h.setCell (p:=(δ g 0)) y a).setCell (p:=(δ g 1)) y b).setCell (p:=(δ g 2)) y c).setCell (p:=(δ g 3)) y d).setCell (p:=(δ g 4)) y e).setCell (p:=(δ g 5)) y f
def zv(R:List Tr)(i:Int):Tr:=if s7 R i=true then es R i else mt
theorem d8.tra{w:ω}{vs vt:Value}{C:Ch}(h:d8 w vs vt C){k:Nat}(O:k<C.ay.length) :
 ∃(b o cap:Nat)(y d:Value),vt=.slice (some (δ b o)) C.ay.length cap/\C.ay.length<=cap/\b<w.heap.size/\TrC w b (o+k*6) (es C.ay (k:Int)) y d/\wc w y d (es C.ay (k:Int)):=by
 obtain⟨_,⟨A,cap,U,I,J⟩⟩:=h;obtain⟨b,o,F,Q,y,d,z,E⟩:=J k _ (acd O);exact⟨b,o,cap,y,d,by rw[U,F],I,Q,z,E⟩
theorem d8.bc0{w:ω}{vs:Value}{C:Ch}{b o n cap:Nat}(h:d8 w vs (.slice (some (δ b o)) n cap) C){k:Nat}(O:k<C.ay.length) :
 ∃(y d:Value),TrC w b (o+k*6) (es C.ay (k:Int)) y d/\wc w y d (es C.ay (k:Int)):=by
 obtain⟨U,Z,V,y,d,Q,_,_,I,J⟩:=h.tra O;injection Q with z W Y;injection z with z;injection z with E F;subst E;subst F;exact⟨y,d,I,J⟩
theorem at9(g:Nat)(i:Int)(C:Ch)(w:ω)(hT:fs w g C)(hF:fewB C=true) :
 Calls prog 251 #[φ g 0,ι i] w λe w'=>κ w w'/\∃vt va,e=.returned (awv (zv C.ay i) vt va)/\wc w' vt va (zv C.ay i):=by
 have I:=aa (cg.new w 62 #[ι 0,ι 0,.string ⟨#[]⟩,.slice none 0 0,.bool false,.slice none 0 0]);have HC:=aa (yv g C _ (hT.below (ap w a15)) hF);have b5:C.ay.length<=60:=(fx hF).2.1;clear hT hF;cases F:s7 C.ay i with
 | true =>
  obtain⟨k,rfl,hk⟩:=yo F;have V:Hid (zv C.ay (k:Int)=es C.ay (k:Int)):=aa (ao F);have av:decide ((k:Int)<0)=false:=by simp
  have a9:decide ((C.ay.length:Int)<=(k:Int))=false:=by simp;omega
  rw[V.out];clear F;go_enter func251,ntmps251;go_wp2_with fail;refine HC.mono ?_;rintro e w1⟨z,us,ut,rfl,E⟩;obtain⟨b,o,a5,wt,wa,bb,b3,b2,⟨c0,c1,c2,c3,c4,c5⟩,a0⟩:=E.has.tra hk;obtain⟨Q,U,rA,ad,rfl,bf⟩:=E.has.slices;subst bb;have ax:=λW=>adz (ι C.vars) (.slice Q C.ab.length U) (.slice (some (δ b o)) C.ay.length a5) W;obtain⟨tA,a3,aA,ak,rfl,rfl⟩:=a0.slices;have d:=aa (I.below z I.lt);have J:=aa (aj z);have a4:=aa E;obtain⟨y0,y1,y2,y3,y4,y5⟩:=d.aa2;have z0:=d.frozen 0;have z1:=d.frozen 1;have z2:=d.frozen 2;have z3:=d.frozen 3;have z4:=d.frozen 4;have z5:=d.frozen 5;have ba:¬b=w.heap.size:=by
   intro b1;obtain⟨rs,ts,_,q2,_,q4⟩:=E;rcases q4.1 with ⟨h,_⟩ | ⟨g',bt,b0,h,b4,_⟩
   . cases h
   . injection h with O;injection O with O;injection O with O;subst O;have:(w.alloc a15).heap.size=w.heap.size+1:=(by simp);omega
  have HQ:=aa (a4.bc3 (g:=w.heap.size) (by simp) (ι (es C.ay (k:Int)).src) (ι (es C.ay (k:Int)).ev) (.string (es C.ay (k:Int)).guard) (.slice tA (es C.ay (k:Int)).cj.length a3) (.bool (es C.ay (k:Int)).inner) (.slice aA (es C.ay (k:Int)).acts.length ak));obtain⟨bs,bk,al,am⟩:=HQ.has.bc0 hk;have a2:Hid (bs=.slice tA (es C.ay (k:Int)).cj.length a3/\bk=.slice aA (es C.ay (k:Int)).acts.length ak):=by
   refine aa ?_;obtain⟨_,_,_,Y,_,Z⟩:=al;have y:∀(W:ω)(j:Nat)(u:Value)(q:Nat),(W.setCell (δ w.heap.size j) u).cell? (δ b q)=W.cell? (δ b q):=λW j u q=>by have hh:=cz W (δ w.heap.size j) u b ba;simp[World.cell?,hh]
   rw[y,y,y,y,y,y,c3]at Y;rw[y,y,y,y,y,y,c5]at Z;injection Y with Y;injection Z with Z;exact⟨Y.symm,Z.symm⟩
  obtain⟨rfl,rfl⟩:=a2.out;have HH:=aa am;clear z E a0 bf al am a2;go_wp2_with fail;refine bodyPost_ret (l2 rfl _ _ _ rfl (ao4 (d.a93 _ _ _ _ _ _))) rfl ?_;exact⟨awe J (ai _) _ _ _ _ _ _,_,_,rfl,HH⟩
 | false =>
  have V:Hid (zv C.ay i=mt):=aa (by unfold zv;rw[ah (by rw[F];simp)]);by_cases a1:i<0
  . have av:decide (i<0)=true:=(by simpa using a1);rw[V.out];clear F;go_enter func251,ntmps251;go_wp2_with fail;refine HC.mono ?_;rintro e w1⟨z,us,ut,rfl,E⟩;obtain⟨Q,U,rA,ad,rfl,rfl⟩:=E.has.slices;have ax:=λW=>adz (ι C.vars) (.slice Q C.ab.length U) (.slice rA C.ay.length ad) W;have d:=aa (I.below z I.lt);have J:=aa (aj z);obtain⟨y0,y1,y2,y3,y4,y5⟩:=d.aa2;have z0:=d.frozen 0;have z1:=d.frozen 1;have z2:=d.frozen 2;have z3:=d.frozen 3;have z4:=d.frozen 4;have z5:=d.frozen 5;clear z E;go_wp2_with fail;refine bodyPost_ret (l2 rfl _ _ _ rfl (ao4 (d.a93 _ _ _ _ _ _))) rfl ?_;exact⟨awe J (ai _) _ _ _ _ _ _,_,_,rfl,br.nil _,br.nil _⟩
  . have av:decide (i<0)=false:=(by simpa using a1);have a9:decide ((C.ay.length:Int)<=i)=true:=by
     have:¬(0<=i/\i<(C.ay.length:Int)):=λh=>by rw[ac1.2 h]at F;cases F
     simp;omega
    rw[V.out];clear F;go_enter func251,ntmps251;go_wp2_with fail;refine HC.mono ?_;rintro e w1⟨z,us,ut,rfl,E⟩;obtain⟨Q,U,rA,ad,rfl,rfl⟩:=E.has.slices;have ax:=λW=>adz (ι C.vars) (.slice Q C.ab.length U) (.slice rA C.ay.length ad) W;have d:=aa (I.below z I.lt);have J:=aa (aj z);obtain⟨y0,y1,y2,y3,y4,y5⟩:=d.aa2;have z0:=d.frozen 0;have z1:=d.frozen 1;have z2:=d.frozen 2;have z3:=d.frozen 3;have z4:=d.frozen 4;have z5:=d.frozen 5;clear z E;go_wp2_with fail;refine bodyPost_ret (l2 rfl _ _ _ rfl (ao4 (d.a93 _ _ _ _ _ _))) rfl ?_;exact⟨awe J (ai _) _ _ _ _ _ _,_,_,rfl,br.nil _,br.nil _⟩
def aov(S:List St)(t:Tr):Int :=
 if t.cj.length=0 then -1
 else if t.inner=true/\kt S t.src=2/\(wu (gd S t.cj).length λi=>jc S ((gd S t.cj).getD i 0) t.src)=true then t.src
 else jnT S (gd S t.cj ++ [t.src])
def mj(C:Ch)(i:Int):Int:=aov C.ab (zv C.ay i)
theorem asx{C:Ch}(y:fewB C=true)(i:Int):(zv C.ay i).cj.length<=20:=by
 unfold zv;split
 . rename_i h;obtain⟨k,rfl,z⟩:=yo h;have:=(fx y).2.2.2 k z;unfold qp at this;simp only[bj,bi]at this;have d:es C.ay (k:Int)=C.ay.getD k mt:=rfl;rw[d];exact this.1.2
 . exact ar _
theorem am9(g:Nat)(i:Int)(C:Ch)(w:ω)(hT:fs w g C)(hF:fewB C=true)(b7:l1 C.ab)(hR:p8 C.ab) :
 Calls prog 206 #[φ g 0,ι i] w λe w'=>e=.returned (ι (mj C i))/\κ w w':=by
 obtain⟨i0,hi,ca,cb,cc⟩:=info_parts Tryz.info3;have HI:=aa hi;have b3:=aa ca;have b4:=aa cb;have b5:=aa cc;have hl:C.ab.length<=1000:=by have:=b7.len;omega
 have a5:=aa (at9 g i C w hT hF);have bs:=asx hF i;have b2:=aa (λ(W:ω)(h:κ w W)(s:Int)=>tu g s C W (hT.below h) hl);have ba:=aa (λ(W:ω)(h:κ w W)(v:Value)(hv:dd W v (zv C.ay i).cj)=>a0i g v (zv C.ay i).cj C W (hT.below h) b7 hR hv (by omega));have b8:=aa (λ(W:ω)(h:κ w W)(s:Int)(v:Value)(L:List Int)(hv:dd W v L)(hL:L.length<=1000)=>awh g s v L C W (hT.below h) hl hR hv (by unfold dw;omega));have HJ:=aa (λ(W:ω)(h:κ w W)(v:Value){L:List Int}(hv:dd W v L)(hL:L.length<=1000)=>a4e g v L C W (hT.below h) hl hR hv (by unfold dw;omega));have bk:Hid (mj C i=aov C.ab (zv C.ay i)):=aa rfl;have a9:=aa (alc C.ab (zv C.ay i).cj);generalize mj C i=R at *;generalize zv C.ay i=T at *;obtain⟨d,ev,Y,y,b1,acts⟩:=T;simp only at a5 bs ba a9;clear hi ca cb cc hT hF b7 hR hl;by_cases h0:y.length=0
 . have ci:Hid (R=-1):=aa (by rw[bk.out];unfold aov;rw[ao h0]);have cl:((y.length:Int)==0)=true:=(by rw[h0];rfl);clear h0;go_enter func206,ntmps206;go_wp2_with fail;refine a5.mono ?_;rintro e V⟨z,vt,va,rfl,O⟩;obtain⟨Q,U,I,J,rfl,rfl⟩:=O.slices;have bt:=aa z;have ak:=aa O.1;simp only at ak;have HX:=aa (cg.new V 62 #[ι d,ι ev,.string Y,.slice Q y.length U,.bool b1,.slice I acts.length J]);have E:=aa (z.trans ((ap V (.cells #[ι d,ι ev,.string Y,.slice Q y.length U,.bool b1,.slice I acts.length J] 62)).mono z.size));have a0:=aa (dd.below ak (ap V (.cells #[ι d,ι ev,.string Y,.slice Q y.length U,.bool b1,.slice I acts.length J] 62)));generalize acts.length=al at *;clear z O;go_wp2;go_ret;exact⟨cw ci.symm,E⟩
 . have cl:((y.length:Int)==0)=false:=fw (by omega);have b0:=aa h0;clear h0;cases b1 with
   | false =>
    have a3:Hid (R=jnT C.ab (gd C.ab y ++ [d])):=aa (by rw[bk.out];unfold aov;rw[ah b0.out,ah (λh=>by cases h.1)]);have ax:Hid ((gd C.ab y).length<=20):=aa (by rw[a9.out];exact bs);generalize gd C.ab y=G at *;go_enter func206,ntmps206;go_wp2_with fail;refine a5.mono ?_;rintro e V⟨z,vt,va,rfl,O⟩;obtain⟨Q,U,I,J,rfl,rfl⟩:=O.slices;have bt:=aa z;have ak:=aa O.1;simp only at ak;have HX:=aa (cg.new V 62 #[ι d,ι ev,.string Y,.slice Q y.length U,.bool false,.slice I acts.length J]);have E:=aa (z.trans ((ap V (.cells #[ι d,ι ev,.string Y,.slice Q y.length U,.bool false,.slice I acts.length J] 62)).mono z.size));have a0:=aa (dd.below ak (ap V (.cells #[ι d,ι ev,.string Y,.slice Q y.length U,.bool false,.slice I acts.length J] 62)));generalize acts.length=al at *;clear z O;go_wp2_with fail;refine(ba _ E _ a0).mono ?_;rintro e w3⟨Z,v3,rfl,ad⟩;have F:=aa (E.trans (Z.mono E.size));have am:=E.size;have av:=aa (fp ad am);have a4:=aa (HX.below Z HX.lt);have bb:=aa (dc ad);have b6:=F.size;obtain⟨y0,y1,y2,y3,y4,y5⟩:=a4.aa2;clear Z ad am;have b9:=ax.out;go_wp2_with (at_builtin;refine wpList_append_own_at _ rfl _ _ 36 rfl (w.heap.size) 3 i0 (ι 0) 1 8 underlying36 HI b3 b4 b5 rfl (by decide) _ _ _ rfl (av.alloc _) (δ w3.heap.size 0) 1 1 [ι d] rfl rfl ?c1 ?c2 ?c3 ?c4 ?c5 ?_)
    case c1=>exact g8 _ _ _ _ (by simp)
    case c2=>exact fl _
    case c3=>unfold maxLen;omega
    case c4=>omega
    case c5=>simp;omega
    intro v' w4 a2 a1 _ _;have HG:=aa (ck (F.alloc F.size _) a1 (by simp;omega) (λg hg=>by have:=(av.lt g hg).1;simpa using this));have bf:=aa a2;clear a2 a1;go_wp2_with fail;refine(HJ w4 HG _ (dc (L:=G ++ [d]) (by rw[dp];simpa using bf.out)) (by simp;omega)).mono ?_;rintro e w5⟨rfl,rfl⟩;go_wp2;go_ret;exact⟨cw a3.symm,HG⟩
   | true =>
    by_cases hk:kt C.ab d=2
    . have co:(kt C.ab d==2)=true:=(by simpa using hk);have HK:=aa hk;clear hk;cases ha:(wu (gd C.ab y).length λi=>jc C.ab ((gd C.ab y).getD i 0) d) with
      | true =>have HA:=aa ha;have a3:Hid (R=d):=aa (by rw[bk.out];unfold aov;rw[ah b0.out,ao ⟨rfl,HK.out,ha⟩]);clear ha;have ax:Hid ((gd C.ab y).length<=20):=aa (by rw[a9.out];exact bs);generalize gd C.ab y=G at *;go_enter func206,ntmps206;go_wp2_with fail;refine a5.mono ?_;rintro e V⟨z,vt,va,rfl,O⟩;obtain⟨Q,U,I,J,rfl,rfl⟩:=O.slices;have bt:=aa z;have ak:=aa O.1;simp only at ak;have HX:=aa (cg.new V 62 #[ι d,ι ev,.string Y,.slice Q y.length U,.bool true,.slice I acts.length J]);have E:=aa (z.trans ((ap V (.cells #[ι d,ι ev,.string Y,.slice Q y.length U,.bool true,.slice I acts.length J] 62)).mono z.size));have a0:=aa (dd.below ak (ap V (.cells #[ι d,ι ev,.string Y,.slice Q y.length U,.bool true,.slice I acts.length J] 62)));generalize acts.length=al at *;clear z O;go_wp2_with fail;refine(ba _ E _ a0).mono ?_;rintro e w3⟨Z,v3,rfl,ad⟩;have F:=aa (E.trans (Z.mono E.size));have am:=E.size;have av:=aa (fp ad am);have a4:=aa (HX.below Z HX.lt);have bb:=aa (dc ad);have b6:=F.size;obtain⟨y0,y1,y2,y3,y4,y5⟩:=a4.aa2;clear Z ad am;go_wp2_with fail;refine(b2 w3 F d).mono ?_;rintro e w4⟨rfl,rfl⟩;go_wp2_with fail;refine(b8 w3 F d v3 G bb (by have:=ax.out;omega)).mono ?_;rintro e w4⟨rfl,rfl⟩;rw[HA.out];go_wp2;go_ret;exact⟨cw a3.symm,F⟩
      | false =>
       have HA:=aa ha;have a3:Hid (R=jnT C.ab (gd C.ab y ++ [d])):=aa (by rw[bk.out];unfold aov;rw[ah b0.out,ah (λh=>by have:=h.2.2;rw[ha]at this;cases this)]);clear ha;have ax:Hid ((gd C.ab y).length<=20):=aa (by rw[a9.out];exact bs);generalize gd C.ab y=G at *;go_enter func206,ntmps206;go_wp2_with fail;refine a5.mono ?_;rintro e V⟨z,vt,va,rfl,O⟩;obtain⟨Q,U,I,J,rfl,rfl⟩:=O.slices;have bt:=aa z;have ak:=aa O.1;simp only at ak;have HX:=aa (cg.new V 62 #[ι d,ι ev,.string Y,.slice Q y.length U,.bool true,.slice I acts.length J]);have E:=aa (z.trans ((ap V (.cells #[ι d,ι ev,.string Y,.slice Q y.length U,.bool true,.slice I acts.length J] 62)).mono z.size));have a0:=aa (dd.below ak (ap V (.cells #[ι d,ι ev,.string Y,.slice Q y.length U,.bool true,.slice I acts.length J] 62)));generalize acts.length=al at *;clear z O;go_wp2_with fail;refine(ba _ E _ a0).mono ?_;rintro e w3⟨Z,v3,rfl,ad⟩;have F:=aa (E.trans (Z.mono E.size));have am:=E.size;have av:=aa (fp ad am);have a4:=aa (HX.below Z HX.lt);have bb:=aa (dc ad);have b6:=F.size;obtain⟨y0,y1,y2,y3,y4,y5⟩:=a4.aa2;clear Z ad am;go_wp2_with fail;refine(b2 w3 F d).mono ?_;rintro e w4⟨rfl,rfl⟩;go_wp2_with fail;refine(b8 w3 F d v3 G bb (by have:=ax.out;omega)).mono ?_;rintro e w4⟨rfl,rfl⟩;rw[HA.out];have b9:=ax.out;go_wp2_with (at_builtin;refine wpList_append_own_at _ rfl _ _ 36 rfl (w.heap.size) 3 i0 (ι 0) 1 8 underlying36 HI b3 b4 b5 rfl (by decide) _ _ _ rfl (av.alloc _) (δ w3.heap.size 0) 1 1 [ι d] rfl rfl ?c1 ?c2 ?c3 ?c4 ?c5 ?_)
       case c1=>exact g8 _ _ _ _ (by simp)
       case c2=>exact fl _
       case c3=>unfold maxLen;omega
       case c4=>omega
       case c5=>simp;omega
       intro v' w4 a2 a1 _ _;have HG:=aa (ck (F.alloc F.size _) a1 (by simp;omega) (λg hg=>by have:=(av.lt g hg).1;simpa using this));have bf:=aa a2;clear a2 a1;go_wp2_with fail;refine(HJ w4 HG _ (dc (L:=G ++ [d]) (by rw[dp];simpa using bf.out)) (by simp;omega)).mono ?_;rintro e w5⟨rfl,rfl⟩;go_wp2;go_ret;exact⟨cw a3.symm,HG⟩
    . have co:(kt C.ab d==2)=false:=(by simpa using hk);have HK:=aa hk;clear hk;have a3:Hid (R=jnT C.ab (gd C.ab y ++ [d])):=aa (by rw[bk.out];unfold aov;rw[ah b0.out,ah (λh=>HK.out h.2.1)]);have ax:Hid ((gd C.ab y).length<=20):=aa (by rw[a9.out];exact bs);generalize gd C.ab y=G at *;go_enter func206,ntmps206;go_wp2_with fail;refine a5.mono ?_;rintro e V⟨z,vt,va,rfl,O⟩;obtain⟨Q,U,I,J,rfl,rfl⟩:=O.slices;have bt:=aa z;have ak:=aa O.1;simp only at ak;have HX:=aa (cg.new V 62 #[ι d,ι ev,.string Y,.slice Q y.length U,.bool true,.slice I acts.length J]);have E:=aa (z.trans ((ap V (.cells #[ι d,ι ev,.string Y,.slice Q y.length U,.bool true,.slice I acts.length J] 62)).mono z.size));have a0:=aa (dd.below ak (ap V (.cells #[ι d,ι ev,.string Y,.slice Q y.length U,.bool true,.slice I acts.length J] 62)));generalize acts.length=al at *;clear z O;go_wp2_with fail;refine(ba _ E _ a0).mono ?_;rintro e w3⟨Z,v3,rfl,ad⟩;have F:=aa (E.trans (Z.mono E.size));have am:=E.size;have av:=aa (fp ad am);have a4:=aa (HX.below Z HX.lt);have bb:=aa (dc ad);have b6:=F.size;obtain⟨y0,y1,y2,y3,y4,y5⟩:=a4.aa2;clear Z ad am;go_wp2_with fail;refine(b2 w3 F d).mono ?_;rintro e w4⟨rfl,rfl⟩;have b9:=ax.out;go_wp2_with (at_builtin;refine wpList_append_own_at _ rfl _ _ 36 rfl (w.heap.size) 3 i0 (ι 0) 1 8 underlying36 HI b3 b4 b5 rfl (by decide) _ _ _ rfl (av.alloc _) (δ w3.heap.size 0) 1 1 [ι d] rfl rfl ?c1 ?c2 ?c3 ?c4 ?c5 ?_)
      case c1=>exact g8 _ _ _ _ (by simp)
      case c2=>exact fl _
      case c3=>unfold maxLen;omega
      case c4=>omega
      case c5=>simp;omega
      intro v' w4 a2 a1 _ _;have HG:=aa (ck (F.alloc F.size _) a1 (by simp;omega) (λg hg=>by have:=(av.lt g hg).1;simpa using this));have bf:=aa a2;clear a2 a1;go_wp2_with fail;refine(HJ w4 HG _ (dc (L:=G ++ [d]) (by rw[dp];simpa using bf.out)) (by simp;omega)).mono ?_;rintro e w5⟨rfl,rfl⟩;go_wp2;go_ret;exact⟨cw a3.symm,HG⟩
def agl(C:Ch)(n:Nat)(i:Int)(k:Nat):Bool:=cm n k&&jc C.ab (k:Int) (mj C i)
def leftN(C:Ch)(n:Nat)(i:Int):Nat:=if mj C i=-1 then 0 else bset (agl C n i) 24
theorem ac0(C:Ch)(n:Nat)(i:Int):leftN C n i<4294967296:=by
 unfold leftN;split
 . omega
 . exact fy _ (by omega)
theorem ary(g n:Nat)(i:Int)(C:Ch)(w:ω)(U:fs w g C)(hF:fewB C=true)(V:l1 C.ab)(Q:p8 C.ab)(hn:n<4294967296) :
 Calls prog 150 #[φ g 0,.int .u32 (n:Int),ι i] w λe w'=>e=.returned (.int .u32 ((leftN C n i:Nat):Int))/\κ w w':=by
 have hl:C.ab.length<=1000:=by have:=V.len;omega
 have a1:=aa (am9 g i C w U hF V Q);have ax:=aa (λ(W:ω)(h:κ w W)(a b:Int)=>adx g a b C W (U.below h) hl Q);by_cases F:mj C i=-1
 . have ad:Hid (leftN C n i=0):=aa (ao F);have a9:(mj C i == -1)=true:=(by simpa using F);generalize leftN C n i=N at *;generalize mj C i=r at *;clear U hF V Q hl F;go_enter func150,ntmps150;go_wp2_with fail;refine a1.mono ?_;rintro e w1⟨rfl,J⟩;have I:=aa J;clear J;go_wp2;go_ret;exact⟨by rw[ad.out];rfl,I⟩
 . have ad:Hid (leftN C n i=bset (agl C n i) 24):=aa (ah F);have a9:(mj C i == -1)=false:=(by simpa using F);have a3:Hid (∀k:Nat,agl C n i k=(cm n k&&jc C.ab (k:Int) (mj C i))):=aa λ_=>rfl;generalize leftN C n i=N at *;generalize agl C n i=P at *;generalize mj C i=r at *;clear U hF V Q hl F;go_enter func150,ntmps150;go_wp2_with fail;refine a1.mono ?_;rintro e w1⟨rfl,J⟩;have I:=aa J;clear J;go_wp2_with fail;go_loopw [8,15] (λv i wr=>∃k:Nat,k<=24/\i=ι (k:Int)/\v=.int .u32 ((bset P k:Nat):Int)/\wr=w1) (λ_ i _=>24-(intOf i).toNat)
   case atStart=>exact ⟨0,ar _,rfl,rfl,rfl⟩
   case round =>
    obtain⟨k,hk,rfl,rfl,rfl⟩:=hrel;by_cases bb:k<24
    . have am:=axa P k (by omega);have al:P k=false->bset P (k+1)=bset P k:=λh=>by rw[bset,h];simp
      have ba:=qj P k;have y:=ajw n k hn (by omega);have a2:=a3.out k;have av:¬((2:Int)^k=0):=(by have h2:((2:Int)^k)=((2^k:Nat):Int):=(by simp);rw[h2];have:=vp (n:=k) (show 0<2 by decide);omega);obtain⟨B',ak⟩:∃B',bset P (k+1)=B':=⟨_,rfl⟩;rw[ak]at am al;have Y:=aa ak;generalize bset P k=B at *;generalize P k=p at *;have a4:=aa am;have a0:=aa al;have d:=aa a2;clear ak am al a2;cases z:cm n k with
      | false =>
       rw[z,ah (by simp)]at y;have a5:(bits .and .u32 (n:Int) ((2:Int)^k) != 0)=false:=(by rw[y];simp);rw[z]at d;clear y z av;go_wp2_with fail;refine(ag1 k (by omega) _).mono ?_;rintro e O⟨rfl,rfl⟩;go_wp2;go_roundw
       case rel=>exact ⟨k+1,by omega,by go_num,by rw[Y.out,a0.out d.out],trivial⟩
       case measure=>simp[intOf];omega
      | true =>
       rw[z,ao rfl]at y
       have a5:(bits .and .u32 (n:Int) ((2:Int)^k) != 0)=true:=by rw[y];exact bne_iff_ne.2 av
       rw[z]at d
       clear y z av
       cases E:jc C.ab (k:Int) r with
       | false =>
        have Z:=aa E
        rw[E]at d
        clear E
        go_wp2_with fail
        refine(ag1 k (by omega) _).mono ?_
        rintro e O⟨rfl,rfl⟩
        go_wp2_with fail
        refine(ax _ I _ _).mono ?_
        rintro e O⟨rfl,rfl⟩
        rw[Z.out]
        go_wp2
        go_roundw
        case rel=>exact ⟨k+1,by omega,by go_num,by rw[Y.out,a0.out d.out],trivial⟩
        case measure=>simp[intOf];omega
       | true =>
        have Z:=aa E
        rw[E]at d
        clear E
        go_wp2_with fail
        refine(ag1 k (by omega) _).mono ?_
        rintro e O⟨rfl,rfl⟩
        go_wp2_with fail
        refine(ax _ I _ _).mono ?_
        rintro e O⟨rfl,rfl⟩
        rw[Z.out]
        go_wp2_with fail
        refine(ag1 k (by omega) _).mono ?_
        rintro e O⟨rfl,rfl⟩
        go_wp2
        go_roundw
        case rel=>exact ⟨k+1,by omega,by go_num,by rw[Y.out,<-a4.out d.out],trivial⟩
        case measure=>simp[intOf];omega
    . obtain rfl:k=24:=(by omega);go_wp2;go_ret;exact⟨by rw[ad.out];rfl,I⟩
theorem a9s(a b:Nat)(d:a<4294967296)(y:b<4294967296):bits .and .u32 (a:Int) (b:Int)=((a &&& b:Nat):Int):=(bits_nat .u32 32 (by decide) o4 _ _ d y).1
theorem bb0(a b:Nat)(d:a<4294967296)(y:b<4294967296):(bits .and .u32 (a:Int) (b:Int) != 0)=decide (a &&& b≠0):=by rw[a9s a b d y,dh,bne_iff_ne,decide_eq_true_iff];omega
theorem avk(g:Nat)(s:Int)(C:Ch)(w:ω)(y:fs w g C)(z:C.ab.length<=1000) :
 Calls prog 199 #[φ g 0,ι s] w λe E=>e=.returned (.bool (zl (kt C.ab s)))/\w=E:=by
 have d:=aa (tu g s C w y z);generalize kt C.ab s=K at *;clear y;by_cases h:K=1
 . subst h;go_enter func199,ntmps199;go_wp2_with fail;refine d.mono ?_;rintro e F⟨rfl,rfl⟩;go_wp2;go_ret;exact⟨rfl,rfl⟩
 . have I:(K==1)=false:=(by simpa using h);go_enter func199,ntmps199;go_wp2_with fail;refine d.mono ?_;rintro e F⟨rfl,rfl⟩;go_wp2;go_ret;exact⟨az (by unfold zl;simp[h];rfl),rfl⟩
theorem aim(g n:Nat)(C:Ch)(w:ω)(hT:fs w g C)(hl:C.ab.length<=31)(hn:n<4294967296) :
 Calls prog 145 #[φ g 0,.int .u32 (n:Int)] w (ab0 (lvL C.ab n) w):=by
 obtain⟨i0,hi,a0,a1,a2⟩:=info_parts Tryz.info3;have HI:=aa hi;have ba:=aa a0;have bb:=aa a1;have bf:=aa a2;have ak:=aa (λ(W:ω)(h:κ w W)(s:Int)=>avk g s C W (hT.below h) (by omega));have a9:=aa (λk=>arx C.ab n k);have ad:=aa (λk=>adu C.ab n k);have a4:Hid (∀k,k<C.ab.length->abw C.ab n k=(cm n k&&zl (kt C.ab (k:Int)))):=aa (λk hk=>by unfold abw kt;rw[ao (ll hk)]);have a3:Hid (lvL C.ab n=lvU C.ab n C.ab.length):=aa rfl;obtain⟨vs,vt,hX,hC⟩:=hT;obtain⟨A,bt,rfl,b1⟩:=br.slice hC.1;obtain⟨⟨x0,x1,x2⟩,-⟩:=hX.ax;generalize lvU C.ab n=U at *;generalize abw C.ab n=P at *;clear hi a0 a1 a2 hX hC;go_enter func145,ntmps145;go_wp2_with fail;go_loopw [5,13] (λv i wr=>∃k:Nat,k<=C.ab.length/\i=ι (k:Int)/\κ w wr/\Hid (wr.ownsRow w.heap.size 3 1 v (U k).length (bg (U k)))) (λ_ i _=>C.ab.length-(intOf i).toNat)
 case atStart =>refine ⟨0,ar _,rfl,ag _ _,aa ?_⟩;have:U 0=[]:=bh (Nat.le_zero.1 (ad 0));rw[this];exact bd _ _ _ _
 case round =>
  obtain⟨k,hk,rfl,Y,I⟩:=hrel;obtain⟨O,rfl⟩:∃O:ω,O=wr:=⟨_,rfl⟩;have d:=aa Y;clear x0 x1 x2;by_cases bk:k<C.ab.length
  . have z:=ajw n k hn (by omega);have av:=a4.out k bk;have ax:=a9.out k;have b2:=ad.out k;have b0:w.heap.size<=O.heap.size:=Y.size;have Z:¬((2:Int)^k=0):=(by have h2:((2:Int)^k)=((2^k:Nat):Int):=(by simp);rw[h2];have:=vp (n:=k) (show 0<2 by decide);omega);generalize P k=p at *;have y:=aa av;have V:=aa ax;clear av ax Y;cases E:cm n k with
    | false =>
     rw[E,ah (by simp)]at z;have bs:(bits .and .u32 (n:Int) ((2:Int)^k) != 0)=false:=(by rw[z];simp);rw[E]at y;clear z E Z;go_wp2_with fail;refine(ag0 k (by omega) _).mono ?_;rintro e J⟨rfl,rfl⟩;go_wp2;go_roundw
     case rel=>exact ⟨k+1,by omega,by go_num,d,aa (by rw[V.out,ah (by rw[y.out];simp),dz];exact I.out)⟩
     case measure=>simp[intOf];omega
    | true =>
     rw[E,ao rfl]at z
     have bs:(bits .and .u32 (n:Int) ((2:Int)^k) != 0)=true:=by rw[z];exact bne_iff_ne.2 Z
     rw[E]at y
     clear z E Z
     cases F:zl (kt C.ab (k:Int)) with
     | false =>
      have Q:=aa F
      rw[F]at y
      clear F
      go_wp2_with fail
      refine(ag0 k (by omega) _).mono ?_
      rintro e J⟨rfl,rfl⟩
      go_wp2_with fail
      refine(ak _ d _).mono ?_
      rintro e J⟨rfl,rfl⟩
      rw[Q.out]
      go_wp2
      go_roundw
      case rel=>exact ⟨k+1,by omega,by go_num,d,aa (by rw[V.out,ah (by rw[y.out];simp),dz];exact I.out)⟩
      case measure=>simp[intOf];omega
     | true =>
      have Q:=aa F
      rw[F]at y
      clear F
      go_wp2_with fail
      refine(ag0 k (by omega) _).mono ?_
      rintro e J⟨rfl,rfl⟩
      go_wp2_with fail
      refine(ak _ d _).mono ?_
      rintro e J⟨rfl,rfl⟩
      rw[Q.out]
      go_wp2_with (at_builtin;refine wpList_append_own_at _ rfl _ _ 36 rfl (w.heap.size) 3 i0 (ι 0) 1 8 underlying36 HI ba bb bf rfl (by decide) _ _ _ rfl (I.out.alloc _) (δ O.heap.size 0) 1 1 [ι (k:Int)] rfl rfl ?c1 ?c2 ?c3 ?c4 ?c5 ?_)
      case c1=>exact g8 _ _ _ _ (by simp)
      case c2=>exact fl _
      case c3=>unfold maxLen;omega
      case c4=>omega
      case c5=>simp;omega
      intro v' J am al _ _
      have HG:=aa (ck (d.alloc d.size _) al (by simp;omega) (λg hg=>by have:=(I.out.lt g hg).1;simpa using this))
      have a5:=aa am
      clear am al
      go_wp2
      go_roundw
      case rel=>exact ⟨k+1,by omega,by go_num,HG,aa (by rw[V.out,ao (by rw[y.out];rfl),dp];simpa using a5.out)⟩
      case measure=>simp[intOf];omega
  . obtain rfl:k=C.ab.length:=(by omega);go_wp2;go_ret;exact⟨d,_,rfl,by rw[a3.out];exact I.out⟩
theorem ali(g:Nat)(C:Ch)(w:ω)(y:fs w g C)(d:fewB C=true) :
 Calls prog 144 #[φ g 0] w λe F=>κ w F/\∃vt,e=.returned vt/\yx F vt C.ay:=by
 have J:=aa (yv g C w y d);clear y d;go_enter func144,ntmps144;go_wp2_with fail;refine J.mono ?_;rintro e Y⟨z,Q,U,rfl,E⟩;have O:=aa E.has.2;have I:=aa z;have V:=λW=>adz (ι C.vars) Q U W;clear E z;go_wp2;go_ret;exact⟨I,_,rfl,O⟩
theorem ac3(A:Option Addr)(R:List Tr)(cap:Nat)(i:Int)(w:ω)(z:R.length<=1000) :
 Calls prog 147 #[.slice A R.length cap,ι i] w λe y=>e=.returned (.bool (s7 R i))/\w=y:=by
 by_cases h:0<=i
 . have d:decide (0<=i)=true:=(by simpa using h);go_enter func147,ntmps147;go_wp2;go_ret;exact⟨az (by unfold s7;rw[d];rfl),rfl⟩
 . have d:decide (0<=i)=false:=(by simpa using h);go_enter func147,ntmps147;go_wp2;go_ret;exact⟨az (by unfold s7;rw[d];rfl),rfl⟩
theorem avm(s:ByteArray)(U:Value)(env:List Int)(w:ω)(hL:ju w)(hs:s.size<=1000000)(hE:fe w U env)(al:env.length<=1000)(ak:∀x∈env,uj x) :
 Calls prog 249 #[.string s,U] w λe w'=>e=.returned (.tuple #[.bool (gdV s env).1,.bool (gdV s env).2])/\κ w w':=by
 have Q:=un s;have Y:=aa (zw s U env w hL hs hE al ak);have a0:=l3;have ax:=λp W=>pq p W;have a1:=λp W=>pn p W;by_cases I:s.size=0
 . have O:Hid (gdV s env=(true,false)):=aa (ao I);generalize gdV s env=R at *;rw[show decide (s.size=0)=true by simpa using I]at Q;have av:s.toList=[]:=(by simpa using Q);clear hL hE ak I;go_enter func249,ntmps249;go_wp2;go_ret2;exact⟨by rw[O.out]<;>rfl,ag _ _⟩
 . have O:Hid (gdV s env=gdA (fi s.data.toList) env):=aa (ah I);generalize gdV s env=R at *;generalize fi s.data.toList=a at *;rw[show decide (s.size=0)=false by simpa using I]at Q;have av:¬s.toList=[]:=(by intro h;rw[h]at Q;cases Q);clear hL hE ak I;cases a with
   | toks o =>
    have ad:Hid (R=match ans ⟨false,env,0⟩ o with | .ok k n=>if k=2 then (decide (n=1),false) else (false,true) | .bad _=>(false,true)):=aa O
    have Z:Hid (Calls prog 261 #[.string s,U] w (ael (ans ⟨false,env,0⟩ o) w)):=aa Y
    generalize ans ⟨false,env,0⟩ o=u at *
    cases u with
    | ok k n =>
     by_cases J:k=2
     . have E:Hid (R=(decide (n=1),false)):=aa (by rw[ad.out];simp only;rw[ao J])
       have am:(k != 2)=false:=by simp[J]
       clear J
       go_enter func249,ntmps249
       go_wp2_with fail
       refine Z.mono ?_
       rintro e V⟨d,y⟩
       have F:e=.returned (.tuple #[.agg #[ι k,ι n],.nilIface]):=y
       subst F
       have z:=aa (d.alloc d.size (.cells #[ι k,ι n] 239))
       clear y d
       go_wp2
       go_ret2
       exact⟨by rw[E.out]<;>rfl,z⟩
     . have E:Hid (R=(false,true)):=aa (by rw[ad.out];simp only;rw[ah J])
       have am:(k != 2)=true:=by simpa using J
       clear J
       go_enter func249,ntmps249
       go_wp2_with fail
       refine Z.mono ?_
       rintro e V⟨d,y⟩
       have F:e=.returned (.tuple #[.agg #[ι k,ι n],.nilIface]):=y
       subst F
       have z:=aa (d.alloc d.size (.cells #[ι k,ι n] 239))
       clear y d
       go_wp2
       go_ret2
       exact⟨by rw[E.out]<;>rfl,z⟩
    | bad c =>
     have E:Hid (R=(false,true)):=aa ad
     go_enter func249,ntmps249
     go_wp2_with fail
     refine Z.mono ?_
     rintro e V⟨d,y⟩
     have F:e=.returned (.tuple #[.agg #[ι 0,ι 0],.iface 93 (ι c)]):=y
     subst F
     have z:=aa (d.alloc d.size (.cells #[ι 0,ι 0] 239))
     clear y d
     go_wp2
     go_ret2
     exact⟨by rw[E.out]<;>rfl,z⟩
   | form k =>have E:Hid (R=(false,true)):=aa O;go_enter func249,ntmps249;go_wp2_with fail;refine Y.mono ?_;rintro e V⟨d,g,rfl,_,_⟩;have z:=aa (d.alloc d.size (.cells #[ι 0,ι 0] 239));clear d;go_wp2;go_ret2;exact⟨by rw[E.out]<;>rfl,z⟩
   | large =>have E:Hid (R=(false,true)):=aa O;go_enter func249,ntmps249;go_wp2_with fail;refine Y.mono ?_;rintro e V⟨d,y⟩;have F:e=.returned (.tuple #[.agg #[ι 0,ι 0],.iface 93 (ι 3)]):=y;subst F;have z:=aa (d.alloc d.size (.cells #[ι 0,ι 0] 239));clear y d;go_wp2;go_ret2;exact⟨by rw[E.out]<;>rfl,z⟩
theorem ar9(t:Tr)(vt V Q:Value)(env:List Int)(ev:Int)(w:ω)(I:ju w)(hs:t.guard.size<=1000000)(F:fe w Q env)(ak:env.length<=1000)(O:∀x∈env,uj x) :
 Calls prog 200 #[awv t vt V,Q,ι ev] w λe w'=>e=.returned (.tuple #[.bool (uv env ev t).1,.bool (uv env ev t).2])/\κ w w':=by
 have z:=aa (λ(W:ω)(h:κ w W)=>avm t.guard Q env W (I.after h) hs (F.below h) ak O);have d:=aa (ap w (mi t vt V));by_cases y:t.ev=ev
 . have E:Hid (uv env ev t=gdV t.guard env):=aa (ao y);generalize uv env ev t=R at *;generalize gdV t.guard env=G at *;have J:(t.ev != ev)=false:=(by simp[y]);obtain⟨am,Z,ad,av,al,acts⟩:=t;simp only at z d J;clear I F O y;go_enter func200,ntmps200;go_wp2_with fail;refine(z _ d).mono ?_;rintro e w1⟨rfl,U⟩;have Y:=aa (d.trans (U.mono d.size));clear U;go_wp2;go_ret2;exact⟨by rw[E.out]<;>rfl,Y⟩
 . have E:Hid (uv env ev t=(false,false)):=aa (ah y);generalize uv env ev t=R at *;have J:(t.ev != ev)=true:=(by simpa using y);obtain⟨am,Z,ad,av,al,acts⟩:=t;simp only at z d J;clear I F O y;go_enter func200,ntmps200;go_wp2;go_ret2;exact⟨by rw[E.out]<;>rfl,d⟩
theorem ano{C:Ch}(y:fewB C=true){k:Nat}(z:k<C.ay.length):(es C.ay (k:Int)).guard.size<=500:=by have:=(fx y).2.2.2 k z;unfold qp at this;simp only[bj,bi]at this;have d:es C.ay (k:Int)=C.ay.getD k mt:=rfl;rw[d];exact this.2
theorem yx.at_{w:ω}{v:Value}{R:List Tr}(h:yx w v R){k:Nat}(O:k<R.length) :
 ∃(b o cap:Nat)(y d:Value),v=.slice (some (δ b o)) R.length cap/\R.length<=cap/\b<w.heap.size/\TrC w b (o+k*6) (es R (k:Int)) y d/\wc w y d (es R (k:Int)):=by
 obtain⟨A,cap,U,I,J⟩:=h;obtain⟨b,o,F,Q,y,d,z,E⟩:=J k _ (acd O);exact⟨b,o,cap,y,d,by rw[U,F],I,Q,z,E⟩
def frK(env:List Int)(d:Int)(R:List Tr)(l:List Int)(y:Int×Nat):Int×Nat:=if y.1=-1 then yt env d R l y.2 else y
theorem a4w(env:List Int)(d:Int)(R:List Tr)(s:Int)(l:List Int)(n:Nat):yt env d R (s::l) n=frK env d R l (zb env d s R 0 n):=rfl
theorem a4u(env:List Int)(d:Int)(R:List Tr)(l:List Int)(n:Nat):frK env d R l (-1,n)=yt env d R l n:=rfl
theorem a4t(env:List Int)(d:Int)(R:List Tr)(l:List Int)(k n:Nat):frK env d R l ((k:Int),n)=((k:Int),n):=by unfold frK;rw[ah (by simp only;omega)]
theorem alh(v u ve:Value)(l:List Int)(d:Int)(C:Ch)(env:List Int)(w:ω)(hL:ju w)(hT:yx w v C.ay)(hF:fewB C=true)(hl:dd w u l)(b6:l.length<=1000)(hE:fe w ve env)(bs:env.length<=1000)(a1:∀x∈env,uj x) :
 Calls prog 146 #[v,u,ve,ι d] w λe w'=>e=.returned (.tuple #[ι (yt env d C.ay l 0).1,ι ((yt env d C.ay l 0).2:Int)])/\κ w w':=by
 have b5:C.ay.length<=60:=(fx hF).2.1;have ba:=aa (λ(k:Nat)(hk:k<C.ay.length)(W:ω)(h:κ w W)(vt va:Value)=>ar9 (es C.ay (k:Int)) vt va ve env d W (hL.after h) (by have:=ano hF hk;omega) (hE.below h) bs a1);have HT:=aa hT;obtain⟨tA,b8,rfl,b7⟩:=br.slice hT;obtain⟨A,b1,rfl,b4,he⟩:=hl;have HE:=aa he;have H0:Hid (yt env d C.ay l 0=yt env d C.ay l 0):=aa rfl;have y:∃X,X=yt env d C.ay l 0:=⟨_,rfl⟩;obtain⟨X,hX⟩:=y;rw[<-hX];have y:=aa hX;clear hL hF hT hE a1 he hX;go_enter func146,ntmps146;go_wp2_with fail;go_loopw [10,19] (λv i wr=>∃k n:Nat,k<=l.length/\n<=k*60/\i=ι (k:Int)/\v=ι (n:Int)/\Hid (X=yt env d C.ay (l.drop k) n)/\κ w wr) (λ_ i _=>l.length-(intOf i).toNat)
 case atStart=>exact ⟨0,0,ar _,ar _,rfl,rfl,y,ag _ _⟩
 case round =>
  obtain⟨k,n,hk,hn,rfl,rfl,y,z⟩:=hrel;obtain⟨J,rfl⟩:∃J:ω,J=wr:=⟨_,rfl⟩;have Z:=aa z;by_cases a3:k<l.length
  . obtain⟨b,o,rfl,bf,hc⟩:=HE.out k _ (ae a3);have c0:J.cell? (δ b (o+k))=some (ι l[k]):=(by have:=d7.keeps w J b _ _ z bf hc;rwa [bq]at this);have F:Hid (X=frK env d C.ay (l.drop (k+1)) (zb env d l[k] C.ay 0 n)):=aa (by rw[y.out,bp a3,a4w]);generalize l[k]=s at *;clear hc z;go_wp2_with fail;go_loopw [10,25] (λv i wr=>∃j m:Nat,j<=C.ay.length/\m<=k*60+j/\i=ι (j:Int)/\v=ι (m:Int)/\Hid (X=frK env d C.ay (l.drop (k+1)) (zb env d s (C.ay.drop j) j m))/\κ w wr) (λ_ i _=>C.ay.length-(intOf i).toNat)
    case atStart=>exact ⟨0,n,ar _,by omega,rfl,rfl,F,Z⟩
    case round =>
     clear c0;obtain⟨j,m,hj,hm,rfl,rfl,y,z⟩:=hrel;obtain⟨J,rfl⟩:∃J:ω,J=wr:=⟨_,rfl⟩;have Z:=aa z;by_cases V:j<C.ay.length
     . obtain⟨b2,o2,b3,wt,wa,b0,_,bk,a4,a2⟩:=HT.at_ V;injection b0 with e1 e2 e3;subst e1;obtain⟨c0,c1,c2,c3,c4,c5⟩:=a4.below z bk;have bb:=aa (ba j V);have a5:C.ay[j]=es C.ay (j:Int):=(by have:=acd V;rw[ae V]at this;injection this);have F:Hid (X=frK env d C.ay (l.drop (k+1)) (zb env d s (es C.ay (j:Int)::C.ay.drop (j+1)) j m)):=aa (by rw[y.out,bp V,a5]);generalize es C.ay (j:Int)=T at *;obtain⟨aA,av,bA,ax,rfl,rfl⟩:=a2.slices;obtain⟨Y,e0,a0,Q,a9,acts⟩:=T;simp only at c0 c1 c2 c3 c4 c5;have E:=aa (z.trans ((ap J (mi ⟨Y,e0,a0,Q,a9,acts⟩ (.slice aA Q.length av) (.slice bA acts.length ax))).mono z.size));have ad:=aa (bb _ E (.slice aA Q.length av) (.slice bA acts.length ax));clear a4 a2 z a5 e3 e2;by_cases O:Y=s
       . have bt:(Y != s)=false:=(by simp[O]);cases hr:uv env d ⟨Y,e0,a0,Q,a9,acts⟩ with
         | mk r1 r2 =>
          rw[hr]at ad
          have ak:Hid (X=frK env d C.ay (l.drop (k+1)) (if r1=true then ((j:Int),m) else zb env d s (C.ay.drop (j+1)) (j+1) (m+if r2=true then 1 else 0))):=aa (by rw[F.out,zb,ao O,hr])
          generalize Q.length=tl at *
          generalize acts.length=al at *
          clear hr O
          cases r1 with
          | true =>
           have am:Hid (X=((j:Int),m)):=aa (by rw[ak.out,ao rfl,a4t])
           go_wp2_with fail
           refine ad.mono ?_
           rintro e w1⟨rfl,I⟩
           have U:=aa (E.trans (I.mono E.size))
           clear I
           go_wp2
           go_ret2
           exact⟨by rw[am.out]<;>rfl,U⟩
          | false =>
           have am:Hid (X=frK env d C.ay (l.drop (k+1)) (zb env d s (C.ay.drop (j+1)) (j+1) (m+if r2=true then 1 else 0))):=aa (by rw[ak.out,ah (by simp)])
           cases r2 with
           | true =>
            go_wp2_with fail
            refine ad.mono ?_
            rintro e w1⟨rfl,I⟩
            have U:=aa (E.trans (I.mono E.size))
            clear I
            go_wp2
            go_roundw
            case rel=>exact ⟨j+1,m+1,by omega,by omega,by go_num,by go_num,am,U⟩
            case measure=>simp[intOf];omega
           | false =>
            go_wp2_with fail
            refine ad.mono ?_
            rintro e w1⟨rfl,I⟩
            have U:=aa (E.trans (I.mono E.size))
            clear I
            go_wp2
            go_roundw
            case rel=>exact ⟨j+1,m,by omega,by omega,by go_num,rfl,am,U⟩
            case measure=>simp[intOf];omega
       . have bt:(Y != s)=true:=(by simpa using O);have ak:Hid (X=frK env d C.ay (l.drop (k+1)) (zb env d s (C.ay.drop (j+1)) (j+1) m)):=aa (by rw[F.out,zb,ah O]);generalize Q.length=tl at *;generalize acts.length=al at *;clear O;go_wp2;go_roundw
         case rel=>exact ⟨j+1,m,by omega,by omega,by go_num,rfl,ak,E⟩
         case measure=>simp[intOf];omega
     . obtain rfl:j=C.ay.length:=(by omega);have F:Hid (X=yt env d C.ay (l.drop (k+1)) m):=aa (by rw[y.out,bz,zb,a4u]);go_wp2;go_roundw
       case rel=>exact ⟨k+1,m,by omega,by omega,by go_num,rfl,F,Z⟩
       case measure=>simp[intOf];omega
  . obtain rfl:k=l.length:=(by omega);have F:Hid (X=(-1,n)):=aa (by rw[y.out,bz,yt]);go_wp2;go_ret2;exact⟨by rw[F.out]<;>rfl,Z⟩
theorem a0d(x:Int)(w:ω):Calls prog 187 #[.slice none 0 0,ι x] w λe d=>e=.returned (ι (-1))/\w=d:=by
 go_enter func187,ntmps187;go_wp2;go_loop [8] (λi=>i=ι 0) (λ_=>0)
 case atStart=>rfl
 case round =>subst hrel;go_wp2;go_ret;exact⟨rfl,rfl⟩
theorem wn(v:Value)(B:Nat)(xs:List Int)(x:Int)(w:ω)(h:w.ownsRow B 3 1 v xs.length (bg xs))(z:xs.length<=1000000) :
 Calls prog 138 #[v,ι x] w λe d=>e=.returned (.bool (xs.contains x))/\w=d:=by
 rcases h.2 with ⟨rfl,E⟩ | ⟨g,F,J,rfl,_⟩
 . obtain rfl:xs=[]:=bh E;clear h E z;go_enter func138,ntmps138;go_wp2_with fail;refine(a0d x w).mono ?_;rintro e d⟨rfl,rfl⟩;go_wp2;go_ret;exact⟨rfl,rfl⟩
 . refine(abo xs g F x w (λi y I=>m6 h i _ (by simp[bg,I])) z).mono ?_;rintro e d⟨rfl,rfl⟩;refine⟨az ?_,rfl⟩;unfold ab4;rw[dh];simp
theorem ajj(w:ω)(x:Value)(t:TypeId):(w.alloc (.cells #[x] t)).ownsRow w.heap.size t 1 (.slice (some (δ w.heap.size 0)) 1 1) 1 [x] :=
 ⟨rfl,.inr ⟨w.heap.size,1,#[x],rfl,ai _,cg.new w t #[x],ai _,by unfold maxLen;omega,rfl,rfl⟩⟩
theorem axj{S:List St}(E:l1 S){n:Nat}{x:Int}(h:x∈lvL S n):0<=lu S x:=by
 have z:=a34 h;have Q:=fj.1 z;refine E.up x z ?_;have O:x≠0:=by
  rintro rfl;unfold lvL lvU at h;obtain⟨k,I,J⟩:=gt.1 h;obtain rfl:k=0:=by omega
  have d:=(ey.1 I).2;unfold abw at d;have y:zl (aq S ((0:Nat):Int)).kind=true:=by simp only[bj]at d;exact d.2
  have F:(aq S ((0:Nat):Int)).kind=2:=E.first;rw[F]at y;simp[zl]at y
 omega
theorem an7{S:List St}(d:l1 S)(s:Int):(vu S s).length<=25:=by have:=aad S s;have:=d.len;unfold vu;rw[bm];omega
theorem ahs(env:List Int)(d:Int){C:Ch}(z:l1 C.ab)(y:fewB C=true)(s:Int):(yt env d C.ay (vu C.ab s) 0).2<=1500:=by have E:=a4v env d C.ay (vu C.ab s) 0;have F:=Nat.mul_le_mul (an7 z s) (fx y).2.1;omega
def a6m(X:List Int×Nat)(w:ω)(e:Ending)(d:ω):Prop:=κ w d/\∃v,e=.returned (.tuple #[v,ι (X.2:Int)])/\d.ownsRow w.heap.size 3 1 v X.1.length (bg X.1)
theorem avn(g n:Nat)(ve:Value)(E:Int)(C:Ch)(env:List Int)(w:ω)(hL:ju w)(hT:fs w g C)(hF:fewB C=true)(I:l1 C.ab)(hR:p8 C.ab)(hn:n<4294967296)(hE:fe w ve env)(el:env.length<=1000)(b2:∀x∈env,uj x) :
 Calls prog 81 #[φ g 0,.int .u32 (n:Int),ve,ι E] w (a6m (gaL C env E n) w):=by
 obtain⟨i0,HI,bf,bk,bs⟩:=ιp Tryz.info3;have ci:=aa (ali g C w hT hF);have cv:=aa (λ(W:ω)(h:κ w W)=>aim g n C W (hT.below h) (by have:=I.len;omega) hn);have d3:=aa (λ(W:ω)(h:κ w W)(s:Int)=>aj2 g s C W (hT.below h) (by have:=I.len;omega) hR);have cl:=aa (λ(W:ω)(h:κ w W)(v u:Value)(hv:yx W v C.ay)(l:List Int)(hl:dd W u l)(ex:l.length<=1000)=>alh v u ve l E C env W (hL.after h) hv hF hl ex (hE.below h) el b2);have bb:=aa (λx(h:x∈lvL C.ab n)=>afs (axj I h));have d6:=aa (λs=>an7 I s);have c7:=aa (λs=>ahs env E I hF s);have fv:(lvL C.ab n).length<=24:=a6 (adu C.ab n _) I.len;have V:∃X,X=gaL C env E n:=⟨_,rfl⟩;obtain⟨X,hX⟩:=V;rw[<-hX];have V:Hid (X=(lvL C.ab n).foldl (la C env E) ([],0)):=aa hX;generalize lvL C.ab n=l at *;clear hL hT hF I hR hE b2 hX;go_enter func81,ntmps81;go_wp2_with fail;refine ci.mono ?_;rintro e w1⟨b0,vt,rfl,bt⟩;have a0:=aa b0;have d0:=aa bt;clear b0 bt;go_wp2_with fail;refine(cv w1 a0).mono ?_;rintro e w2⟨a3,vl,rfl,b4⟩;have a1:=aa (a0.trans (a3.mono a0.size));have d1:=aa (yx.below d0 a3);obtain⟨A,e7,rfl,fn,he⟩:=dc b4;have HE:=aa he;clear a3 b4 he;go_wp2_with fail;go_loopw [11,12,26] (λv m i wr=>∃(k q:Nat)(d:List Int),k<=l.length/\q<=k*1500/\d.length<=k/\i=ι (k:Int)/\m=ι (q:Int)/\Hid (X=(l.drop k).foldl (la C env E) (d,q))/\κ w2 wr/\Hid (wr.ownsRow w2.heap.size 3 1 v d.length (bg d))) (λ_ _ i _=>l.length-(intOf i).toNat)
 case atStart=>exact ⟨0,0,[],ar _,ar _,ar _,rfl,rfl,V,ag _ _,aa (bd _ _ _ _)⟩
 case round =>
  obtain⟨k,q,d,hk,hq,e9,rfl,rfl,V,Z,ax⟩:=hrel;obtain⟨z,rfl⟩:∃z:ω,z=wr:=⟨_,rfl⟩;have am:=aa Z;have Q:=aa (a1.trans (Z.mono a1.size));have fa:w.heap.size<=z.heap.size:=Q.size;by_cases av:k<l.length
  . obtain⟨b,o,rfl,ek,hc⟩:=HE.out k _ (ae av);have c0:z.cell? (δ b (o+k))=some (ι l[k]):=(by have:=d7.keeps w2 z b _ _ Z ek hc;rwa [bq]at this);have F:Hid (X=(l.drop (k+1)).foldl (la C env E) (la C env E (d,q) l[k])):=aa (V.trans (nf _ l k av _));have e6:=aa (bb l[k] (bw av));have f2:0<(wx C.ab l[k]).length:=(bo.1 (bb l[k] (bw av))).1;have b7:=d6.out l[k];have eb:Hid (vu C.ab l[k]=[l[k]]++wx C.ab l[k]):=aa rfl;have e1:=c7.out l[k];have f3:(wx C.ab l[k]).length<=24:=(by unfold vu at b7;rw[bm]at b7;omega);have co:Hid (la C env E (d,q) l[k]=(uw d (yt env E C.ay (vu C.ab l[k]) 0).1,q+(yt env E C.ay (vu C.ab l[k]) 0).2)):=aa rfl;have ba:=aa (λ(W:ω)(h:κ w W)(v u:Value)(hv:yx W v C.ay)(hl:dd W u (vu C.ab l[k]))=>cl W h v u hv _ hl (by omega));rw[co.out]at F;generalize yt env E C.ay (vu C.ab l[k]) 0=Y at *;obtain⟨y,yn⟩:=Y;simp only at e1 F ba;have d4:=aa (d3 (z.alloc (.cells #[ι l[k]] 3)) (Q.alloc Q.size _) l[k]);have d2:=aa (λ(W:ω)(h:κ z W)=>yx.below d1 (am.trans (h.mono am.size)));generalize wx C.ab l[k]=up at *;generalize vu C.ab l[k]=e5 at *;generalize l[k]=s at *;clear hc Z;go_wp2_with fail;refine d4.mono ?_;rintro e w3⟨ak,v3,rfl,a9⟩;have dy:=aa (bl (ajj z (ι s) 3) ak);have db:Hid (u11.ownBlock=none\/u11.ownBlock≠(Value.slice (some (δ z.heap.size 0)) 1 1).ownBlock):=aa (.inr λh=>by have:=(ax.out.lt z.heap.size (h.trans rfl)).2;omega);have b9:=aa (bl (ax.out.alloc (.cells #[ι s] 3)) ak);have ca:=aa (aj ak);have f0:z.heap.size+1<=w3.heap.size:=(by have:=ak.size;simpa using this);rcases a9.2 with ⟨_,hz⟩ | ⟨g3,eg,e8,rfl,fu,er,fg,e0,e2,e3⟩
    . omega
    . have cc:=aa a9;clear ak a9 ax c0 er e3 e0 e2;go_wp2_with (at_builtin;refine wpList_append_own_at _ rfl _ _ 36 rfl (z.heap.size) 3 i0 (ι 0) 1 8 underlying36 HI bf bk bs rfl (by decide) _ _ _ rfl dy (δ g3 0) up.length eg (bg up) rfl (by simp[bg]) ?c1 ?c2 ?c3 ?c4 ?c5 ?_)
      case c1=>intro j u hj;rw[yu];simpa using m6 cc j u hj
      case c2 =>intro u hu;obtain⟨x,_,rfl⟩:=gt.1 hu;rfl
      case c3=>unfold maxLen;omega
      case c4=>omega
      case c5=>omega
      intro v4 w4 b6 a5 _ _;have d5:Hid (dd w4 v4 e5):=aa (dc (B:=z.heap.size) (by rw[eb.out,aw];simpa [bg] using b6));have b1:∀b,(Value.slice (some (δ z.heap.size 0)) 1 1).ownBlock=some b->z.heap.size<=b:=λb Z=>by simp[Value.ownBlock]at Z;omega
      have al:=aa (ck (ca) a5 (by omega) b1);have b8:=aa (b9.kept a5 (db));have cb:=aa (Q.trans (al.mono Q.size));clear b6 a5 b1;go_wp2_with fail;refine(ba w4 cb vt v4 (d2 w4 al) d5).mono ?_;rintro e w5⟨rfl,a4⟩;have U:=aa (am.trans ((al.trans (a4.mono al.size)).mono am.size));have O:=aa (bl b8 a4);have f1:w2.heap.size<=w5.heap.size:=U.size;clear a4;by_cases J:y=-1
      . have e4:(y != -1)=false:=(by simp[J]);have HP:Hid (uw d y=d):=aa (by unfold uw;rw[ao (.inl J)]);clear J;go_wp2;go_roundw
        case rel=>exact ⟨k+1,q+yn,d,by omega,by omega,by omega,by go_num,by go_num,by rw[<-HP.out];exact F,U,O⟩
        case measure=>simp[intOf];omega
      . have e4:(y != -1)=true:=(by simpa using J);cases ad:d.contains y with
        | true =>
         have HP:Hid (uw d y=d):=aa (by unfold uw;rw[ao (.inr ad)]);have a2:=aa ad;clear J ad;go_wp2_with fail;refine(wn _ _ d y w5 O (by omega)).mono ?_;rintro e w6⟨rfl,rfl⟩;rw[a2.out];go_wp2;go_roundw
         case rel=>exact ⟨k+1,q+yn,d,by omega,by omega,by omega,by go_num,by go_num,by rw[<-HP.out];exact F,U,O⟩
         case measure=>simp[intOf];omega
        | false =>
         have HP:Hid (uw d y=d ++ [y]):=aa (by unfold uw;rw[ah (by rw[ad];simp;exact J)]);have a2:=aa ad;clear J ad;go_wp2_with fail;refine(wn _ _ d y w5 O (by omega)).mono ?_;rintro e w6⟨rfl,rfl⟩;rw[a2.out];go_wp2_with (at_builtin;refine wpList_append_own_at _ rfl _ _ 36 rfl (w2.heap.size) 3 i0 (ι 0) 1 8 underlying36 HI bf bk bs rfl (by decide) _ _ _ rfl (O.alloc _) (δ w5.heap.size 0) 1 1 [ι y] rfl rfl ?c1 ?c2 ?c3 ?c4 ?c5 ?_)
         case c1=>exact g8 _ _ _ _ (by simp)
         case c2=>exact fl _
         case c3=>unfold maxLen;omega
         case c4=>omega
         case c5=>simp;omega
         intro v' w7 b5 b3 _ _;have HG:=aa (ck (B:=w2.heap.size) (U.alloc U.size _) b3 (by have:=U.size;simp;omega) (λg hg=>by have:=(O.lt g hg).1;simpa using this));have ds:=aa b5;clear b5 b3;go_wp2;go_roundw
         case rel=>exact ⟨k+1,q+yn,d ++ [y],by omega,by omega,by simp;omega,by go_num,by go_num,by rw[<-HP.out];exact F,HG,aa (by rw[dp];simpa using ds.out)⟩
         case measure=>simp[intOf];omega
  . obtain rfl:k=l.length:=(by omega);have F:Hid (X=(d,q)):=aa (by rw[V.out,bz,dv]);go_wp2;go_ret2;refine⟨Q,_,by rw[F.out]<;>rfl,by rw[F.out];exact fp ax.out a1.size⟩
theorem a1p(s:ByteArray)(w:ω) :
 Calls prog 291 #[.string s] w λe d=>e=.returned (ι (afp s.data.toList:Nat))/\w=d:=by
 rw[<-Lib.toList_data];go_enter func291,ntmps291;go_wp2;all_goals
  go_ret
  refine⟨cw ?_,rfl⟩
  simp only[afp, *,↓reduceIte,Bool.false_eq_true]
  rfl
theorem a2z(s:ByteArray)(w:ω)(E:0<s.size)(I:s.size<=1000000) :
 Calls prog 292 #[.string s] w λe F=>e=.returned (.tuple #[ι ((zc s.data.toList).1:Nat),ι ((zc s.data.toList).2:Nat)])/\w=F:=by
 have y:=Lib.size_eq s;by_cases z:1<s.size
 . have d:zc s.data.toList=aid true (s[1].toNat:Int) (s[0].toNat:Int):=(by rw [zc,mg s 1 z,mg s 0 E,<- y,em z]);rw [d];clear d y;go_enter func292,ntmps292;go_wp2;all_goals
    go_ret2
    refine⟨aw6 ?_ ?_,rfl⟩<;>simp[aid, *]
 . have d:zc s.data.toList=aid false 0 (s[0].toNat:Int):=(by rw [zc,mg s 0 E,<- y,df z]; rfl);rw [d];clear d y;go_enter func292,ntmps292;go_wp2;all_goals
    go_ret2
    refine⟨aw6 ?_ ?_,rfl⟩<;>simp[aid, *]
theorem a62(s:ByteArray)(k j:Nat)(w:ω) :
 Calls prog 291 #[.string (s.extract k j)] w λe d=>e=.returned (ι (afp (uy s.data.toList k j):Nat))/\w=d:=by
 have:=a1p (s.extract k j) w;rwa [Lib.extract_data]at this
theorem a7o(s:ByteArray)(k:Nat)(y:k<s.size)(z:s.size<=1000000)(w:ω) :
 Calls prog 292 #[.string (s.extract k s.size)] w λe d=>e=.returned (.tuple #[ι ((zc (s.data.toList.drop k)).1:Nat),ι ((zc (s.data.toList.drop k)).2:Nat)])/\w=d:=by
 have h:=wm s k s.size (ai _);have:=a2z (s.extract k s.size) w (by omega) (by omega);rwa [Lib.extract_to_end]at this
theorem aif(s:ByteArray)(w:ω)(hs:s.size<=200) :
 Calls prog 279 #[.string s] w (a90 (pc s.data.toList 0 []) w):=by
 obtain⟨i0,HI,a3,a4,a5⟩:=ιp Tryz.ai3;have HZ:=aa (Lib.size_eq s);generalize b4:pc s.data.toList 0 []=R at *;have HR:=aa b4;clear b4;go_enter func279,ntmps279;go_wp2;go_loopw [4,5] (λv i wr=>∃(k:Nat)(F:List Tk),k<=s.size/\F.length<=k/\i=ι (k:Int)/\Hid (pc s.data.toList k F=R)/\κ w wr/\Hid (wr.ownsRow w.heap.size 206 3 v F.length (g9 F))) (λ_ i _=>s.size-(intOf i).toNat)
 case atStart=>exact ⟨0,[],ar _,by simp,rfl,HR,ag _ _,aa (bd _ _ _ _)⟩
 case round =>
  obtain⟨k,F,hk,cv,rfl,Y,Z,ak⟩:=hrel;obtain⟨V,rfl⟩:∃V:ω,V=wr:=⟨_,rfl⟩;have Q3:=aa (show F.length+1<=maxLen by unfold maxLen;omega);have Q4:=aa (show (F.length+1)*24<=140737488355328 by omega);have Q5:=aa (show ∀o:Obj,w.heap.size<=(V.alloc o).heap.size from λo=>by simp;have:=Z.size;omega);by_cases b0:k<s.size
  . have J:k<s.data.toList.length:=(by rw[<-HZ.out];exact b0);have ha:=aa (mg s k b0);by_cases bb:s[k].toNat=32
    . have z:=aa ((aw2 s.data.toList k F J (by rw[<-ha.out];unfold nz;exact em bb)).symm.trans Y.out);have h1:((s[k].toNat:Int)==32)=true:=(by simp;omega);clear bb;go_wp2;go_roundw
      case rel=>exact ⟨k+1,F,by omega,by omega,by go_num,z,Z,ak⟩
      case measure=>simp[intOf];omega
    . have ax:=aa (show nz (s.data.toList.getD k 0)=false by rw[<-ha.out];unfold nz;exact df bb);have h1:((s[k].toNat:Int)==32)=false:=(by simp;omega);clear bb;by_cases bk:48<=s[k].toNat/\s[k].toNat<=57
      . have am:i7 (s.data.toList.getD k 0)=true:=(by rw[<-ha.out];unfold i7;simp;omega);have I:=aa (a7g s.data.toList k am);generalize hE:je i7 s.data.toList k=E at I;have b1:48<=(s[k].toNat:Int):=(by omega);have b2:(s[k].toNat:Int)<=57:=(by omega);have HE:=aa hE;clear bk am hE;go_wp2;go_loop [7,8,9] (λt n b=>∃(j m:Nat)(a0:Bool),k<=j/\j<=s.size/\t=ι (j:Int)/\n=.int .u64 (m:Int)/\b=.bool a0/\m<=9223372036854775807/\Hid (je i7 s.data.toList j=E)/\Hid (a0=decide (9223372036854775807<val (uy s.data.toList k j)))/\Hid (a0=false->m=val (uy s.data.toList k j))) (λt _ _=>s.size-(intOf t).toNat)
        case atStart=>exact ⟨k,0,false,by omega,hk,rfl,rfl,rfl,by omega,HE,aa (by rw[ak1];decide),aa (λ_=>by rw[ak1];rfl)⟩
        case round =>
         obtain⟨j,m,a0,b8,hj,rfl,rfl,rfl,hm,O,hG,hM⟩:=hrel;by_cases ad:∃h:j<s.size,48<=s[j].toNat/\s[j].toNat<=57
         . obtain⟨y,b5,b6⟩:=ad;have ba:j<s.data.toList.length:=(by rw[<-HZ.out];exact y);have HV:=aa ((o7 i7 s.data.toList j ba (by rw[<-mg s j y];unfold i7;simp;omega)).symm.trans O.out);have HX:=aa (show val (uy s.data.toList k (j+1))=10*val (uy s.data.toList k j)+(s[j].toNat-48) by rw[ak0 _ k j b8 ba,a1r,<-mg s j y]);have d1:48<=(s[j].toNat:Int):=(by omega);have d2:(s[j].toNat:Int)<=57:=(by omega);cases a0 with
           | true =>
            have HB:=aa (of_decide_eq_true hG.out.symm);clear O hG hM;go_wp2;all_goals
             go_round
             case rel=>exact ⟨j+1,m,true,by omega,by omega,by go_num,rfl,rfl,hm,HV,aa (by have:=HB.out;rw[HX.out];symm;exact em (by omega)),aa (λh=>by cases h)⟩
             case measure=>simp[intOf];omega
           | false =>
            have bf:=hM.out rfl;by_cases ht:(9223372036854775807-((s[j].toNat:Int)-48)) / 10<(m:Int)
            . have HB:=aa (show 9223372036854775807<10*val (uy s.data.toList k j)+(s[j].toNat-48) by omega);clear O hG hM bf;go_wp2;go_round
              case rel=>exact ⟨j+1,m,true,by omega,by omega,by go_num,rfl,rfl,hm,HV,aa (by have:=HB.out;rw[HX.out];symm;exact em (by omega)),aa (λh=>by cases h)⟩
              case measure=>simp[intOf];omega
            . have bt:10*(m:Int)+((s[j].toNat:Int)-48)<=9223372036854775807:=(by omega);have b3:=aa bf;clear O hG hM bf;go_wp2;go_round
              case rel=>exact ⟨j+1,10*m+(s[j].toNat-48),false,by omega,by omega,by go_num,by congr 1;omega,rfl,by omega,HV,aa (by have:=b3.out;rw[HX.out];symm;exact df (by omega)),aa (λ_=>by rw[HX.out,b3.out])⟩
              case measure=>simp[intOf];omega
         . have bs:E=j:=by
            rw[<-O.out];by_cases y:j<s.size
            . exact aa5 i7 s.data.toList j (by rw[<-HZ.out];exact y) (by rw[<-mg s j y];unfold i7;have:¬(48<=s[j].toNat/\s[j].toNat<=57):=λh=>ad ⟨y,h⟩;simp;omega)
            . exact ye i7 s.data.toList j (by rw[<-HZ.out];omega)
           subst bs;have d:(∃h:E<s.size,(s[E].toNat:Int)<48)\/(∃h:E<s.size,57<(s[E].toNat:Int))\/(s.size:Int)<=E:=by
            by_cases y:E<s.size
            . have:¬(48<=s[E].toNat/\s[E].toNat<=57):=λh=>ad ⟨y,h⟩;by_cases ca:s[E].toNat<48
              . exact .inl ⟨y,by omega⟩
              . exact .inr (.inl ⟨y,by omega⟩)
            . exact .inr (.inr (by omega))
           cases a0 with
           | true =>
            have z:=aa (Y.out.symm.trans (af8 _ k F J ax.out (I.trans (ah (by have:=of_decide_eq_true hG.out.symm;omega)))));clear ad O hG hM;rcases d with ⟨al,d⟩ | ⟨al,d⟩ | d;all_goals
             go_wp2
             go_ret2
             exact⟨Z,.inr ⟨k,z,rfl⟩⟩
           | false =>
            have a9:=I.trans (ao (by have:=of_decide_eq_false hG.out.symm;omega));rw[<-hM.out rfl]at a9;have z:=aa ((ack _ k _ _ F J ax.out a9).symm.trans Y.out);have b7:k<E:=(aae J a9).1;clear ad O hG hM a9;rcases d with ⟨al,d⟩ | ⟨al,d⟩ | d;all_goals
             go_wp2_with (at_builtin;refine wpList_append_own_at _ rfl _ _ 124 rfl w.heap.size 206 i0 (.agg #[ι 0,ι 0,ι 0]) 3 24 underlying124 HI a3 a4 a5 rfl (by decide) _ _ _ rfl (ak.out.alloc _) (δ V.heap.size 0) 1 1 (mr ((1:Int),(m:Int),(k:Int))) rfl rfl (tt V 206 _ _ rfl) (acf _) Q3.out Q4.out (Q5.out _) ?_;intro v' w2 U Q _ _;have HG:=aa (ad7 Z ak.out Q);have av:=aa (aaj U);clear U Q)
             go_roundw
             case rel=>exact ⟨E,_,hj,by simp;omega,rfl,z,HG,av⟩
             case measure=>simp[intOf];omega
      . by_cases bt:97<=s[k].toNat/\s[k].toNat<=122
        . have am:i7 (s.data.toList.getD k 0)=false:=(by rw[<-ha.out];unfold i7;simp;omega);have a1:js (s.data.toList.getD k 0)=true:=(by rw[<-ha.out];unfold js;simp;omega);have I:=aa (a16 s.data.toList k J am a1);have b9:=aa (o7 js s.data.toList k J a1);generalize hE:je js s.data.toList k=E at I b9;have b1:97<=(s[k].toNat:Int):=(by omega);have b2:(s[k].toNat:Int)<=122:=(by omega);have HE:=aa hE;rw[<-ha.out]at I;clear bk bt am a1 hE;go_wp2;go_loop [7] (λi=>∃j:Nat,k<=j/\j<=s.size/\i=ι (j:Int)/\Hid (je js s.data.toList j=E)) (λi=>s.size-(intOf i).toNat)
          case atStart=>exact ⟨k,by omega,hk,rfl,HE⟩
          case round =>
           obtain⟨j,b8,hj,rfl,O⟩:=hrel;by_cases ad:∃h:j<s.size,97<=s[j].toNat/\s[j].toNat<=122
           . obtain⟨y,b5,b6⟩:=ad;have ba:j<s.data.toList.length:=(by rw[<-HZ.out];exact y);have HV:=aa ((o7 js s.data.toList j ba (by rw[<-mg s j y];unfold js;simp;omega)).symm.trans O.out);have d1:97<=(s[j].toNat:Int):=(by omega);have d2:(s[j].toNat:Int)<=122:=(by omega);clear O b5 b6;go_wp2;go_round
             case rel=>exact ⟨j+1,by omega,by omega,by go_num,HV⟩
             case measure=>simp[intOf];omega
           . have bs:E=j:=by
              rw[<-O.out];by_cases y:j<s.size
              . exact aa5 js s.data.toList j (by rw[<-HZ.out];exact y) (by rw[<-mg s j y];unfold js;have:¬(97<=s[j].toNat/\s[j].toNat<=122):=λh=>ad ⟨y,h⟩;simp;omega)
              . exact ye js s.data.toList j (by rw[<-HZ.out];omega)
             subst bs;have d:(∃h:E<s.size,(s[E].toNat:Int)<97)\/(∃h:E<s.size,122<(s[E].toNat:Int))\/(s.size:Int)<=E:=by
              by_cases y:E<s.size
              . have:¬(97<=s[E].toNat/\s[E].toNat<=122):=λh=>ad ⟨y,h⟩;by_cases ca:s[E].toNat<97
                . exact .inl ⟨y,by omega⟩
                . exact .inr (.inl ⟨y,by omega⟩)
              . exact .inr (.inr (by omega))
             clear ad O;have HW:=aa (λW=>a62 s k E W);generalize afp (uy s.data.toList k E)=K at I HW;by_cases h1:E=k+1
             . have a2:=I.trans (ao h1);have z:=aa ((ack _ k _ _ F J ax.out a2).symm.trans Y.out);rw [<- h1] at z;have e1:((E:Int) == (k:Int)+1)=true:=(by simp; omega);have b7:k < E:=(by omega);clear h1;rcases d with ⟨al,d⟩ | ⟨al,d⟩ | d;all_goals
                go_wp2_with (first | (go_at_call 291;refine (HW _).mono ?_;rintro e w'⟨rfl,rfl⟩) | (at_builtin;refine wpList_append_own_at _ rfl _ _ 124 rfl w.heap.size 206 i0 (.agg #[ι 0,ι 0,ι 0]) 3 24 underlying124 HI a3 a4 a5 rfl (by decide) _ _ _ rfl (ak.out.alloc _) (δ V.heap.size 0) 1 1 (mr ((2:Int),(s[k].toNat:Int)-97,(k:Int))) rfl rfl (tt V 206 _ _ rfl) (acf _) Q3.out Q4.out (Q5.out _) ?_;intro v' w2 U Q _ _;have HG:=aa (ad7 Z ak.out Q);have av:=aa (aaj U);clear U Q))
                go_roundw
                case rel=>exact ⟨E,_,hj,by simp;omega,rfl,z,HG,av⟩
                case measure=>simp[intOf];omega
             . have a2:=aa (I.trans (ah h1));have e1:((E:Int)==(k:Int)+1)=false:=(by simp;omega);by_cases h0:K=0
               . have z:=aa (Y.out.symm.trans (af8 _ k F J ax.out (a2.trans (ao h0))));subst h0;clear h1;rcases d with ⟨al,d⟩ | ⟨al,d⟩ | d;all_goals
                  go_wp2_with (go_at_call 291;refine (HW _).mono ?_;rintro e w'⟨rfl,rfl⟩)
                  go_ret2
                  exact⟨Z,.inr ⟨k,z,rfl⟩⟩
               . have z:=aa ((ack _ k _ _ F J ax.out (a2.trans (ah h0))).symm.trans Y.out);have e0:((K:Int) != 0)=true:=(by simp; omega);have b7:k < E:=(aae J (a2.trans (ah h0))).1;clear h1 h0;rcases d with ⟨al,d⟩ | ⟨al,d⟩ | d;all_goals
                  go_wp2_with (first | (go_at_call 291;refine (HW _).mono ?_;rintro e w'⟨rfl,rfl⟩) | (at_builtin;refine wpList_append_own_at _ rfl _ _ 124 rfl w.heap.size 206 i0 (.agg #[ι 0,ι 0,ι 0]) 3 24 underlying124 HI a3 a4 a5 rfl (by decide) _ _ _ rfl (ak.out.alloc _) (δ V.heap.size 0) 1 1 (mr ((K:Int),0,(k:Int))) rfl rfl (tt V 206 _ _ rfl) (acf _) Q3.out Q4.out (Q5.out _) ?_;intro v' w2 U Q _ _;have HG:=aa (ad7 Z ak.out Q);have av:=aa (aaj U);clear U Q))
                  go_roundw
                  case rel=>exact ⟨E,_,hj,by simp;omega,rfl,z,HG,av⟩
                  case measure=>simp[intOf];omega
        . have am:i7 (s.data.toList.getD k 0)=false:=(by rw[<-ha.out];unfold i7;simp;omega);have a1:js (s.data.toList.getD k 0)=false:=(by rw[<-ha.out];unfold js;simp;omega);have I:=aa (a17 s.data.toList k J am a1);have cc:=wm s k s.size (ai _);have HS:=aa (a7o s k b0 (by omega));generalize zc (s.data.toList.drop k)=jn at I HS;obtain⟨j,n⟩:=jn;have d:(s[k].toNat:Int)<48\/(57<(s[k].toNat:Int)/\(s[k].toNat:Int)<97)\/122<(s[k].toNat:Int):=(by omega);clear bk bt am a1 cc;by_cases hn:n=0
          . have z:=aa (Y.out.symm.trans (af8 _ k F J ax.out (I.trans (ao hn))));subst hn;rcases d with d | ⟨d,ci⟩ | d;all_goals
             go_wp2_with (go_at_call 292;refine (HS _).mono ?_;rintro e w'⟨rfl,rfl⟩)
             go_ret2
             exact⟨Z,.inr ⟨k,z,rfl⟩⟩
          . have z:=aa ((ack _ k _ _ F J ax.out (I.trans (ah hn))).symm.trans Y.out);have hg:=(aae J (I.trans (ah hn))).2;have cl:((n:Int) == 0)=false:=(by simp; exact hn);have co:1<=n:=(by omega);have cb:k+n<=s.size:=(by rw [HZ.out]; exact hg);clear hn hg;rcases d with d | ⟨d,ci⟩ | d;all_goals
             go_wp2_with (first | (go_at_call 292;refine (HS _).mono ?_;rintro e w'⟨rfl,rfl⟩) | (at_builtin;refine wpList_append_own_at _ rfl _ _ 124 rfl w.heap.size 206 i0 (.agg #[ι 0,ι 0,ι 0]) 3 24 underlying124 HI a3 a4 a5 rfl (by decide) _ _ _ rfl (ak.out.alloc _) (δ V.heap.size 0) 1 1 (mr ((j:Int),0,(k:Int))) rfl rfl (tt V 206 _ _ rfl) (acf _) Q3.out Q4.out (Q5.out _) ?_;intro v' w2 U Q _ _;have HG:=aa (ad7 Z ak.out Q);have av:=aa (aaj U);clear U Q))
             go_roundw
             case rel=>exact ⟨k+n,_,cb,by simp;omega,by go_num,z,HG,av⟩
             case measure=>simp[intOf];omega
  . have z:=aa (Y.out.symm.trans (aq0 _ k F (by rw[<-HZ.out];omega)));clear Y;go_wp2;go_ret2;refine⟨Z,.inl ⟨by rw[z.out],_,rfl,?_⟩⟩;rw[z.out];exact ak.out
theorem azo(ts:List Tk)(g n:Nat)(I:Value)(y:a6i ts g I n):ph ts g I n 6:=by
 intro k V R v x w z O Q F E U;subst U;have H:=aa (y k V R v w z O Q F E);clear y z F E;go_enter func280,ntmps280;go_wp2_with fail;refine H.out.mono ?_;intro e W d;obtain rfl:=d.ret;have J:=aa d;clear d;go_wp2_with fail;first | go_end0 | (simp only[Exit.inBlock,Exit.then];refine bodyPost_ret (results_none rfl _ _ _) rfl ?_) | refine bodyPost_ret (results_none rfl _ _ _) rfl ?_
 exact J
def bcr(ts:List Tk)(g:Nat)(F:Value)(I:Nat)(R:wv)(z:Nat)(E:List Tk)(w:ω)(N y:Nat)(wr:ω):Prop :=
 (∃(k:Nat)(o:List Tk)(d:Value),y<=N/\rd ts y (10+I) k o=some R/\k<=ts.length/\o.length<=k/\o.length+z<=E.length+k/\Below g w wr/\QSt g F wr k d o false)\/
 (∃(k:Nat)(o:List Tk)(d:Value),R=.bad k/\o.length+z<=E.length+k/\Below g w wr/\QSt g F wr k d o true)
theorem zd(ts:List Tk)(g n d:Nat)(O:Value)(hl:ts.length<=1000)(h1:1<=d)(h6:d<6)(h3:d≠3)(hF:∀m,m<=n->ph ts g O m (d+1)):ph ts g O (n+1) d:=by
 intro k ad R v x w hR hk ho hT hS hx;subst hx;have HF:=aa hF;have HT:=aa hT;have HS:=aa hS;rw[aos n d ad h6 h3]at hR;obtain⟨R1,ax⟩:∃R1,rd ts n (d+1) k ad=some R1:=by
  rcases fc hR with ⟨F,a,c⟩ | ⟨F,I,a,c⟩
  . exact⟨_,a⟩
  . exact⟨_,a⟩
 have bt:=aa ax;have am:=aa (gh ts n (d+1) k ad R1 ax hk);rw[ax]at hR;have HR:=aa hR;have n6:((d:Int)==6)=false:=by simp;omega
 have n3:((d:Int)==3)=false:=by simp;omega
 clear hF hT hS hR ax h3;go_enter func280,ntmps280;go_wp2_with fail;refine(HF n (ai _) k ad R1 v _ w bt hk ho HT HS (by simp)).mono ?_;rintro e w1⟨rfl,a9,hm⟩;have hrel:bcr ts g O d R k ad w n n w1:=by
  cases R1 with
  | ok F I =>
   obtain⟨v',Q⟩:=hm
   have hf:=am.out
   unfold ml at hf
   exact .inl ⟨F,I,v',ai _,HR,by omega,by omega,by omega,a9,Q⟩
  | bad F =>
   obtain⟨v',I,Q,a1⟩:=hm
   have E:=HR.out
   simp only[jl]at E
   injection E with E
   exact .inr ⟨F,I,v',E.symm,a1,a9,Q⟩
 have b1:=aa hrel;clear hrel hm a9;go_wp2_with fail;go_loopg [4] n (λgk t wr=>bcr ts g O d R k ad w n gk wr)
 case atStart=>exact b1
 case round =>
  rcases hrel with ⟨z,J,V,b4,E,ba,b6,a1,W,Y⟩ | ⟨z,J,V,rfl,a1,W,Y⟩
  . obtain⟨m,rfl⟩:∃m,gk=m+1:=by
     cases gk with
     | zero=>rw[rd]at E;cases E
     | succ m=>exact ⟨m,rfl⟩
    have HB:=aa W;have U:=aa Y;have av:=aa (HT.below W);by_cases Z:lvl (jt ts z)=d
    . have bk:z<ts.length:=acz (ts:=ts) (k:=z) (by omega);rw[aot m d J h1 Z]at E;obtain⟨R2,a0⟩:∃R2,rd ts m (d+1) (z+1) J=some R2:=by
       rcases fc E with ⟨F,a,c⟩ | ⟨F,I,a,c⟩
       . exact⟨_,a⟩
       . exact⟨_,a⟩
      have b0:=aa a0;have am:=aa (gh ts m (d+1) (z+1) J R2 a0 bk);rw[a0]at E;have HR:=aa E;have HC:=aa Z;obtain⟨⟨c0,c1,c2,c3⟩,f0,f1,f2,f3⟩:=Y.blk.nv;clear E Z a0 W Y;go_wp2_with fail;refine(ov ts g z O V _ J av U ba (by omega)).mono ?_;rintro e w2⟨rfl,a,rfl⟩;go_wp2_with fail;refine(qy _ _).mono ?_;rintro e w2⟨rfl,rfl⟩;rw[HC.out];go_wp2_with fail;refine(ov ts g z O V _ J (av.drewN a) (U.drewN a) ba (by omega)).mono ?_;rintro e w2⟨rfl,c,rfl⟩;go_wp2_with fail;have hb:Below g wr (wr.setCell (δ g 1) (ι ((z:Int)+1))):=(ag _ _).setCell (by simp) _;have b3:=aa ((av.below hb).drewN (a+c));have b2:=aa ((U.at_ (z+1)).drewN (a+c));have bs:=aa (bx (HB.trans hb) (a+c));clear hb;refine(HF m (by omega) (z+1) J R2 V _ _ b0 bk (by omega) b3 b2 (by simp)).mono ?_;rintro e w3⟨rfl,bf,hm⟩;have bb:=aa (bs.trans bf);clear bf;cases R2 with
      | ok F I =>
       obtain⟨v',Q⟩:=hm;have a4:=aa Q;have hf:=am.out;unfold ml at hf;clear Q;go_wp2_with fail;refine(wg g F _ 0 O v' I false _ a4 (by omega)).mono ?_;rintro e w4⟨rfl,ak,v4,al⟩;have a3:=aa (bb.trans ak);have a5:=aa al;clear ak al;go_wp2_with fail;go_roundg m
       case measure=>omega
       case rel=>exact .inl ⟨F,I ++ [(jt ts z,0,0)],v4,by omega,HR,by omega,by simp only[aw,bm,dg];omega,by simp only[aw,bm,dg];omega,a3,a5⟩
      | bad F =>
       obtain⟨v',I,Q,b5⟩:=hm;have a4:=aa Q;have hf:=am.out;unfold ml at hf;have a2:=HR.out;simp only[jl]at a2;injection a2 with a2;subst a2;clear Q;go_wp2_with fail;refine(wg g F _ 0 O v' I true _ a4 (by omega)).mono ?_;rintro e w4⟨rfl,ak,v4,al⟩;have a3:=aa (bb.trans ak);have a5:=aa al;clear ak al;go_wp2_with fail;go_roundg m
       case measure=>omega
       case rel=>exact .inr ⟨F,I ++ [(jt ts z,0,0)],v4,rfl,by simp only[aw,bm,dg];omega,a3,a5⟩
    . rw[aou m d J Z]at E;injection E with E;subst E;have q1:(lvl (jt ts z)==d)=false:=(by simpa using Z);have q2:(((lvl (jt ts z):Nat):Int)==(d:Int))=false:=(by simp;omega);have q3:decide (lvl (jt ts z)=d)=false:=(by simpa using Z);clear Z W Y;go_wp2_with fail;refine(ov ts g z O V _ J av U ba (by omega)).mono ?_;rintro e w2⟨rfl,a,rfl⟩;go_wp2_with fail;refine(qy _ _).mono ?_;rintro e w2⟨rfl,rfl⟩;generalize lvl (jt ts z)=y at *;go_wp2_with fail;first | go_end0 | (simp only[Exit.inBlock,Exit.then];refine bodyPost_ret (results_none rfl _ _ _) rfl ?_) | refine bodyPost_ret (results_none rfl _ _ _) rfl ?_
      exact⟨rfl,bx HB a,V,U.drewN a⟩
  . have HB:=aa W;have U:=aa Y;have q2:((0:Int)==(d:Int))=false:=(by simp;omega);have q3:((d:Int)==0)=false:=(by simp;omega);have q4:decide (0=d)=false:=(by simp;omega);have q5:decide (d=0)=false:=(by simp;omega);have q6:(0==d)=false:=(by simp;omega);clear W Y;go_wp2_with fail;refine(aom g z O V _ U.blk).mono ?_;rintro e w2⟨rfl,a,rfl⟩;go_wp2_with fail;refine(qy _ _).mono ?_;rintro e w2⟨rfl,rfl⟩;rw[ak3];go_wp2_with fail;first | go_end0 | (simp only[Exit.inBlock,Exit.then];refine bodyPost_ret (results_none rfl _ _ _) rfl ?_) | refine bodyPost_ret (results_none rfl _ _ _) rfl ?_
    exact⟨rfl,bx HB a,V,J,U.drewN a,a1⟩
theorem azp(ts:List Tk)(g n k:Nat)(y v:Value)(d:List Tk)(R:wv)(w:ω)(hl:ts.length<=1000)(hF:ph ts g y n 3)(hk:k<=ts.length)(ho:d.length<=k)(hT:lg g w y ts)(W:QSt g y w k v d false)
 (hc:jt ts k=14)(hR:jl (rd ts n 3 (k+1) d) (λI o=>some (.ok I (o ++ [(14,0,0)])))=some R):Calls prog 280 #[φ g 0,ι 3] w (aem g y k d R w):=by
 have am:k<ts.length:=p6 (by omega);obtain⟨U,V,rfl⟩:=afx hR;have ak:=aa (gh ts n 3 (k+1) d U V am);have HF:=aa hF;have HT:=aa hT;have HS:=aa W;have HC:=aa hc;have av:=aa V;obtain⟨⟨c0,c1,c2,c3⟩,f0,f1,f2,f3⟩:=W.blk.nv;clear hF hT W hc hR V;go_enter func280,ntmps280;go_wp2_with fail;refine(ov ts g k y v _ d HT HS hk (by omega)).mono ?_;rintro e w1⟨rfl,a,rfl⟩;rw[HC.out];go_wp2_with fail;have Y:Below g w (w.setCell (δ g 1) (ι ((k:Int)+1))):=(ag _ _).setCell (by simp) _;have a0:=aa ((HT.below Y).drewN a);have ax:=aa ((HS.at_ (k+1)).drewN a);have HB:=aa (bx Y a);clear Y;refine(HF (k+1) d U v 3 _ av am (by omega) a0 ax rfl).mono ?_;rintro e w2⟨rfl,al,hm⟩;have ad:=aa (HB.trans al);clear al;cases U with
 | ok I Z =>
  obtain⟨v',E⟩:=hm;have O:=aa E;clear E;go_wp2_with fail;refine(wg g I 14 0 y v' Z false _ O (by have:=ak.out;unfold ml at this;omega)).mono ?_;rintro e w3⟨rfl,z,v3,F⟩;have J:=aa (ad.trans z);have Q:=aa F;clear z F;go_wp2_with fail;first | go_end0 | (simp only[Exit.inBlock,Exit.then];refine bodyPost_ret (results_none rfl _ _ _) rfl ?_) | refine bodyPost_ret (results_none rfl _ _ _) rfl ?_
  exact⟨rfl,J,v3,Q⟩
 | bad I =>
  obtain⟨v',Z,E,a1⟩:=hm;have O:=aa E;clear E;go_wp2_with fail;refine(wg g I 14 0 y v' Z true _ O (by have:=ak.out;unfold ml at this;omega)).mono ?_;rintro e w3⟨rfl,z,v3,F⟩;have J:=aa (ad.trans z);have Q:=aa F;clear z F;go_wp2_with fail;first | go_end0 | (simp only[Exit.inBlock,Exit.then];refine bodyPost_ret (results_none rfl _ _ _) rfl ?_) | refine bodyPost_ret (results_none rfl _ _ _) rfl ?_
  exact⟨rfl,J,v3,_,Q,by simp only[aw,bm,dg];omega⟩
def bab(ts:List Tk)(g:Nat)(y:Value)(z:wv)(E:Nat)(F:List Tk)(w:ω)(wr:ω):Prop :=
 match z with
 | .ok k o=>∃d,Below g w wr/\QSt g y wr k d o false
 | .bad k=>∃d o,Below g w wr/\QSt g y wr k d o true/\o.length+E<=F.length+k
theorem azq(ts:List Tk)(g n k:Nat)(F v:Value)(J:List Tk)(R:wv)(w:ω)(hl:ts.length<=1000)(hF:ph ts g F n 4)(hk:k<=ts.length)(ho:J.length<=k)(hT:lg g w F ts)(hS:QSt g F w k v J false)
 (I:jt ts k≠14)(hR:jl (rd ts n 4 k J) (λz o=>if lvl (jt ts z)=3 then jl (rd ts n 4 (z+1) o) λb4 Q=>some (.ok b4 (Q ++ [(jt ts z,0,0)])) else some (.ok z o))=some R):Calls prog 280 #[φ g 0,ι 3] w (aem g F k J R w):=by
 have HF:=aa hF;have HT:=aa hT;have HS:=aa hS;obtain⟨V,am⟩:∃V,rd ts n 4 k J=some V:=by
  rcases fc hR with ⟨z,a,c⟩ | ⟨z,Q,a,c⟩
  . exact⟨_,a⟩
  . exact⟨_,a⟩
 have bs:=aa am;have bk:=aa (gh ts n 4 k J V am hk);rw[am]at hR;have HR:=aa hR;have b5:(jt ts k==14)=false:=by simpa using I
 clear hF hT hS hR am I;go_enter func280,ntmps280;go_wp2_with fail;refine(ov ts g k F v _ J HT HS hk (by omega)).mono ?_;rintro e w1⟨rfl,a,rfl⟩;generalize jt ts k=x0 at *;go_wp2_with fail;refine(HF k J V v _ _ bs hk ho (HT.drewN a) (HS.drewN a) rfl).mono ?_;rintro e w1⟨rfl,a2,hm⟩;have b0:Hid (bab ts g F V k J w w1):=aa (by
  cases V with
  | ok z Q=>obtain ⟨v',O⟩:=hm;exact ⟨v',(bx (ag g w) a).trans a2,O⟩
  | bad z=>obtain ⟨v',Q,O,a4⟩:=hm;exact ⟨v',Q,(bx (ag g w) a).trans a2,O,a4⟩)
 clear hm a2 b5;go_wp2_with fail;go_loopg [4] 1 (λgk t wr=>bab ts g F V k J w wr)
 case atStart=>exact b0
 case round =>
  cases V with
  | bad z =>
   obtain⟨W,o1,Y,Z,a4⟩:=hrel
   have d:=HR.out
   simp only[jl]at d
   injection d with d
   subst d
   have HB:=aa Y
   have U:=aa Z
   clear Y Z
   go_wp2_with fail
   refine(aom g z F W _ U.blk).mono ?_
   rintro e w2⟨rfl,a,rfl⟩
   go_wp2_with fail
   refine(qy _ _).mono ?_
   rintro e w2⟨rfl,rfl⟩
   rw[ak3]
   go_wp2_with fail
   first | go_end0 | (simp only[Exit.inBlock,Exit.then];refine bodyPost_ret (results_none rfl _ _ _) rfl ?_) | refine bodyPost_ret (results_none rfl _ _ _) rfl ?_
   exact⟨rfl,bx HB a,W,o1,U.drewN a,a4⟩
  | ok E o1 =>
   obtain⟨W,Y,Z⟩:=hrel
   have hf:=bk.out
   unfold ml at hf
   have HB:=aa Y
   have U:=aa Z
   have al:=aa (HT.below Y)
   by_cases I:lvl (jt ts E)=3
   . have bb:E<ts.length:=acz (ts:=ts) (k:=E) (by omega)
     have d:=HR.out
     simp only[jl]at d
     rw[ao I]at d
     obtain⟨R2,a1,b3⟩:=afx d
     subst b3
     have bt:=aa a1
     have a9:=aa (gh ts n 4 (E+1) o1 R2 a1 bb)
     have HC:=aa I
     obtain⟨⟨c0,c1,c2,c3⟩,f0,f1,f2,f3⟩:=Z.blk.nv
     clear d I a1 Y Z
     go_wp2_with fail
     refine(ov ts g E F W _ o1 al U (by omega) (by omega)).mono ?_
     rintro e w2⟨rfl,a,rfl⟩
     go_wp2_with fail
     refine(qy _ _).mono ?_
     rintro e w2⟨rfl,rfl⟩
     rw[HC.out]
     go_wp2_with fail
     refine(ov ts g E F W _ o1 (al.drewN a) (U.drewN a) (by omega) (by omega)).mono ?_
     rintro e w2⟨rfl,c,rfl⟩
     go_wp2_with fail
     have hb:Below g wr (wr.setCell (δ g 1) (ι ((E:Int)+1))):=(ag _ _).setCell (by simp) _
     have b2:=aa ((al.below hb).drewN (a+c))
     have b1:=aa ((U.at_ (E+1)).drewN (a+c))
     have bf:=aa (bx (HB.trans hb) (a+c))
     clear hb
     refine(HF (E+1) o1 R2 W _ _ bt bb (by omega) b2 b1 rfl).mono ?_
     rintro e w3⟨rfl,ba,hm⟩
     have a5:=aa (bf.trans ba)
     clear ba
     cases R2 with
     | ok z Q =>
      obtain⟨v',O⟩:=hm
      have ax:=aa O
      have a3:=a9.out
      unfold ml at a3
      clear O
      go_wp2_with fail
      refine(wg g z _ 0 F v' Q false _ ax (by omega)).mono ?_
      rintro e w4⟨rfl,ad,v4,ak⟩
      have av:=aa (a5.trans ad)
      have a0:=aa ak
      clear ad ak
      go_wp2_with fail
      first | go_end0 | (simp only[Exit.inBlock,Exit.then];refine bodyPost_ret (results_none rfl _ _ _) rfl ?_) | refine bodyPost_ret (results_none rfl _ _ _) rfl ?_
      exact⟨rfl,av,v4,a0⟩
     | bad z =>
      obtain⟨v',Q,O,b6⟩:=hm
      have ax:=aa O
      have a3:=a9.out
      unfold ml at a3
      clear O
      go_wp2_with fail
      refine(wg g z _ 0 F v' Q true _ ax (by omega)).mono ?_
      rintro e w4⟨rfl,ad,v4,ak⟩
      have av:=aa (a5.trans ad)
      have a0:=aa ak
      clear ad ak
      go_wp2_with fail
      first | go_end0 | (simp only[Exit.inBlock,Exit.then];refine bodyPost_ret (results_none rfl _ _ _) rfl ?_) | refine bodyPost_ret (results_none rfl _ _ _) rfl ?_
      exact⟨rfl,av,v4,_,a0,by simp only[aw,bm,dg];omega⟩
   . have d:=HR.out
     simp only[jl]at d
     rw[ah I]at d
     injection d with d
     subst d
     have q1:(lvl (jt ts E)==3)=false:=by simpa using I
     have q2:(((lvl (jt ts E):Nat):Int)==(3:Int))=false:=by simp;omega
     have q3:decide (lvl (jt ts E)=3)=false:=by simpa using I
     clear I Y Z
     go_wp2_with fail
     refine(ov ts g E F W _ o1 al U (by omega) (by omega)).mono ?_
     rintro e w2⟨rfl,a,rfl⟩
     go_wp2_with fail
     refine(qy _ _).mono ?_
     rintro e w2⟨rfl,rfl⟩
     generalize lvl (jt ts E)=y at *
     go_wp2_with fail
     first | go_end0 | (simp only[Exit.inBlock,Exit.then];refine bodyPost_ret (results_none rfl _ _ _) rfl ?_) | refine bodyPost_ret (results_none rfl _ _ _) rfl ?_
     exact⟨rfl,bx HB a,W,U.drewN a⟩
theorem azr(ts:List Tk)(g n:Nat)(d:Value)(O:ts.length<=1000)(U:ph ts g d n 3)(V:ph ts g d n 4):ph ts g d (n+1) 3:=by
 intro k E R v x w y J Q I F W;subst W;by_cases z:jt ts k=14
 . rw[ajg n E z]at y;exact azp ts g n k d v E R w O U J Q I F z y
 . rw[ajh n E z]at y;exact azq ts g n k d v E R w O V J Q I F z y
structure bdb (ts:List Tk) (g:Nat) (vin:Value) (n:Nat):Prop where
 one:a6i ts g vin n
 r1:ph ts g vin n 1
 r2:ph ts g vin n 2
 r3:ph ts g vin n 3
 r4:ph ts g vin n 4
 r5:ph ts g vin n 5
 r6:ph ts g vin n 6
theorem qv(ts:List Tk)(g:Nat)(y:Value)(d:Nat):ph ts g y 0 d:=λk z R v x w h=>by rw[rd]at h;cases h
theorem bcn(ts:List Tk)(g:Nat)(d:Value)(y:ts.length<=1000):∀n,∀m,m<=n->bdb ts g d m
 | 0,m,I=>by
  obtain rfl:m=0:=by omega
  exact⟨(λk J R v w h=>by rw[rd]at h;cases h),qv _ _ _ _,qv _ _ _ _,qv _ _ _ _,qv _ _ _ _,qv _ _ _ _,qv _ _ _ _⟩
 | n+1,m,I=>by
  have z:=bcn ts g d y n;by_cases h:m<=n
  . exact z m h
  . obtain rfl:m=n+1:=(by omega);have E:=z n (ai n);have F:=a8l ts g n d y E.one E.r1;exact ⟨F,zd ts g n 1 d y (by omega) (by omega) (by omega) λm h=>(z m h).r2,zd ts g n 2 d y (by omega) (by omega) (by omega) λm h=>(z m h).r3,azr ts g n d y E.r3 E.r4,
     zd ts g n 4 d y (by omega) (by omega) (by omega) λm h=>(z m h).r5,zd ts g n 5 d y (by omega) (by omega) (by omega) λm h=>(z m h).r6,azo ts g (n+1) d F⟩
def aye(a:Ans)(w:ω)(e:Ending)(d:ω):Prop :=
 κ w d/\match a with
  | .toks o=>∃v,e=.returned (.tuple #[v,ι 0,ι (-1)])/\d.ownsRow w.heap.size 206 3 v o.length (g9 o)
  | .form k=>e=.returned (.tuple #[.slice none 0 0,ι 2,ι k])
  | .large=>e=.returned (.tuple #[.slice none 0 0,ι 3,ι (-1)])
theorem aoo(s:ByteArray)(w:ω)(d:200<s.size)(y:s.size<=1000000):Calls prog 264 #[.string s] w (aye .large w):=by go_enter func264,ntmps264;go_wp2_with fail;refine bodyPost_ret (v:=.tuple #[.slice none 0 0,ι 3,ι (-1)]) (by simp[results,Tryz.results264,go_sem]) rfl ?_;exact⟨ag _ _,rfl⟩
theorem aq6(s:ByteArray)(w:ω)(Q:s.size<=200)(k:Nat)(y:pc s.data.toList 0 []=([],(k:Int))):Calls prog 264 #[.string s] w (aye (.form k) w):=by
 have J:=aa y;clear y;go_enter func264,ntmps264;go_wp2_with fail;refine(aif s w Q).mono ?_;intro e U E;rw[J.out]at E;rcases E with ⟨z,⟨d,_⟩ | ⟨F,d,rfl⟩⟩
 . simp at d
 . have O:F=k:=(by simp only[Prod.mk.injEq]at d;omega);subst O;have I:=aa z;clear d z;go_wp2_with fail;refine bodyPost_ret (v:=.tuple #[.slice none 0 0,ι 2,ι F]) (by simp[results,Tryz.results264,go_sem]) rfl ?_;exact⟨I,rfl⟩
theorem anw(ts:List Tk)(d k:Nat):adh ts d (.bad k)=.form (pg ts d k):=rfl
theorem awc(ts:List Tk)(d:Nat):pg ts d ts.length=d:=by unfold pg;rw[cn (ai _)];rfl
theorem aq7(s:ByteArray)(w:ω)(hs:s.size<=200)(ts:List Tk)(R:wv)(hR:pc s.data.toList 0 []=(ts,-1))(hA:adp ts=some R):Calls prog 264 #[.string s] w (aye (adh ts s.size R) w):=by
 have b3:ts.length<=200:=by have:=aqz s.data.toList;rw[hR,<-Lib.size_eq]at this;simp at this;omega
 have hf:=gh ts _ 1 0 [] R hA (ar _);have HR:=aa hR;have HA:=aa hA;have V:=aa hf;clear hR hA hf;go_enter func264,ntmps264;go_wp2_with fail;refine(aif s w hs).mono ?_;intro e O hp;rw[HR.out]at hp;rcases hp with ⟨hb,⟨_,v,rfl,am⟩ | ⟨k',h1,_⟩⟩
 . have HT:=aa (lg.of (lw.fg am));obtain⟨A,Q,rfl,_⟩:=lw.fg am;have U:=aa hb;clear am hb;go_wp2_with fail;have al:κ O (O.alloc (.cells #[.slice A ts.length Q,ι 0,.slice none 0 0,.bool false] 282)):=(ag _ _).alloc (ai _) _;have ba:Hid (QSt O.heap.size (.slice A ts.length Q) (O.alloc (.cells #[.slice A ts.length Q,ι 0,.slice none 0 0,.bool false] 282)) 0 (.slice none 0 0) [] false):=aa ⟨cg.new _ _ _,bd _ _ _ _⟩;have a2:=aa (HT.below al);have a9:=aa al;clear al;have a5:=(bcn ts O.heap.size (.slice A ts.length Q) (by omega) (20*ts.length+20) _ (ai _)).r1;refine(a5 0 [] R _ 1 _ HA (ar _) (by simp) a2 ba rfl).mono ?_;rintro e w2⟨rfl,ak,hm⟩;have HK:=aa (a9.trans ak);have a3:=aa (a2.below ak);clear ak a5;have F:=aa (U.trans (HK.mono U.size));cases R with
   | bad k =>
    obtain⟨v',o,E,_⟩:=hm;obtain⟨⟨c0,c1,c2,c3⟩,f0,f1,f2,f3⟩:=E.blk.nv;have b0:k<=ts.length:=(by have:=V.out;unfold ml at this;omega);clear E;by_cases d:k=ts.length
    . subst d;have I:decide (ts.length<ts.length)=false:=(by simp);go_wp2_with fail;refine bodyPost_ret (v:=.tuple #[.slice none 0 0,ι 2,ι s.size]) (by simp[results,Tryz.results264,go_sem]) rfl ?_;rw[anw,awc];exact⟨F,rfl⟩
    . have y:k<ts.length:=(by omega);obtain⟨A',a4,hv,hc,J⟩:=a3.out;obtain⟨b,o,rfl,bb,Y,Z,d2⟩:=J k ts[k] (ae y);injection hv with av ax a0;subst av;have W:=aa (show pg ts s.size k=ts[k].2.2 by unfold pg;rw[ae y];rfl);have I:decide (k<ts.length)=true:=(by simpa using y);have bt:(k:Int)<(ts.length:Int):=(by omega);have bs:(0:Int)<=(k:Int):=qs _;generalize ts[k].2.2=z at *;clear J hc ax a0 d Y Z;go_wp2_with fail;go_quiet (fail);go_wp2_with fail;refine bodyPost_ret (v:=.tuple #[.slice none 0 0,ι 2,ι z]) (by simp[results,Tryz.results264,go_sem]) rfl ?_;rw[anw,W.out];exact⟨bx F _,rfl⟩
   | ok k o =>
    obtain⟨v',E⟩:=hm;obtain⟨⟨c0,c1,c2,c3⟩,f0,f1,f2,f3⟩:=E.blk.nv;have HS:=aa E;have b4:o.length<=200:=(by have:=V.out;unfold ml at this;simp at this;omega);have b0:k<=ts.length:=(by have:=V.out;unfold ml at this;omega);obtain⟨A',a4,b1⟩:=cd E.own;subst b1;clear E;by_cases d:k=ts.length
    . have a1:=aa d;have I:decide (k<ts.length)=false:=(by simp;omega);subst d;by_cases ad:o.length<=100
      . have I:decide (100<o.length)=false:=(by simpa using ad);have bf:decide ((100:Int)<(o.length:Int))=false:=(by simp;omega);go_wp2_with fail;refine bodyPost_ret (v:=.tuple #[.slice A' o.length a4,ι 0,ι (-1)]) (by simp[results,Tryz.results264,go_sem]) rfl ?_;rw[al0 _ _ _ _ rfl ad];exact⟨F,_,rfl,aak HS.own (a6 U.size (j8 _))⟩
      . have I:decide (100<o.length)=true:=(by simpa using ad);have bf:decide ((100:Int)<(o.length:Int))=true:=(by simp;omega);have bk:100<o.length:=(by omega);go_wp2_with fail;refine bodyPost_ret (v:=.tuple #[.slice none 0 0,ι 3,ι (-1)]) (by simp[results,Tryz.results264,go_sem]) rfl ?_;rw[aiy _ _ _ _ rfl bk];exact⟨F,rfl⟩
    . have y:k<ts.length:=(by omega);have a1:=aa d;obtain⟨A2,b2,hv,hc,J⟩:=a3.out;obtain⟨b,o2,rfl,bb,Y,Z,d2⟩:=J k ts[k] (ae y);injection hv with av ax a0;subst av;have W:=aa (show pg ts s.size k=ts[k].2.2 by unfold pg;rw[ae y];rfl);have I:decide (k<ts.length)=true:=(by simpa using y);have bt:(k:Int)<(ts.length:Int):=(by omega);have bs:(0:Int)<=(k:Int):=qs _;generalize ts[k].2.2=z at *;clear J hc ax a0 d Y Z;go_wp2_with fail;go_quiet (fail);go_wp2_with fail;refine bodyPost_ret (v:=.tuple #[.slice none 0 0,ι 2,ι z]) (by simp[results,Tryz.results264,go_sem]) rfl ?_;rw[al1 _ _ _ _ a1.out,W.out];exact⟨bx F _,rfl⟩
 . simp at h1
theorem aut(s:ByteArray)(w:ω)(z:s.size<=1000000):Calls prog 264 #[.string s] w (aye (fi s.data.toList) w):=by
 unfold fi;rw[<-Lib.size_eq];by_cases h:s.size<=200
 . rw[ao h];unfold ax9;rcases ake s.data.toList with d | ⟨k,d⟩
   . obtain⟨R,y⟩:=abe (pc s.data.toList 0 []).1;rw[ao d,y];exact aq7 s w h _ R (by rw[<-d]) y
   . rw[d,ah (by simp)];exact aq6 s w h k d
 . rw[ah h];exact aoo s w (by omega) z
end Go.Proofs.YtpekhdfmmkmjaaaGreatDoor
