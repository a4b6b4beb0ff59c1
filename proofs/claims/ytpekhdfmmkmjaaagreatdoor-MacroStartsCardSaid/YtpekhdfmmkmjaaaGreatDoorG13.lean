/- Texts of the proof, put together. -/
import Derived.Test.YtpekhdfmmkmjaaaGreatDoorG12
namespace Go.Proofs.YtpekhdfmmkmjaaaGreatDoor
set_option maxHeartbeats 16000000
set_option maxRecDepth 100000
set_option linter.unusedVariables false
open Go.Proofs.Tryz
def cfN(C:Ch)(X:Se):Nat:=bset X.a C.ab.length
def mz(C:Ch)(d:Int)(X:Se):List Int:=zj (siL C (leftN C (cfN C X)) (gaL C X.env d (cfN C X)).1)
def uq(C:Ch)(d:Int)(X:Se):Nat:=(gaL C X.env d (cfN C X)).2
def Se.ix(X:Se)(k:Nat):Se:=⟨X.a,X.au,X.env,X.ins++List.replicate k 1001,X.st,X.out⟩
def Se.kp(X:Se):Se:=⟨X.a,X.au,X.env,X.ins.tail,X.st,X.out⟩
def Se.hush(X:Se):Se:=⟨X.a,X.au,X.env,X.ins,X.st,[]⟩
def ahl(C:Ch)(l:List Int)(X:Se):Se :=
 let Y:=o8 C l ⟨cm (cfN C X),pm C.ab.length X.au,X.env,X.ins,X.st,[]⟩
 ⟨Y.a,Y.au,Y.env,Y.ins,Y.st,X.out++Y.out⟩
def q9(X:Se):Se:=if 50<X.ins.length then X.lq 3 else X
def tb(C:Ch)(l:List Int)(X:Se):Se:=if l=[] then X else ahl C l X
def uo(C:Ch)(d:Int)(X:Se):Se:=q9 (tb C (mz C d X) (X.ix (uq C d X)))
def ff(C:Ch)(d:Int)(X:Se)(f:Nat):Bool×Se×Nat :=
 if f=0 then (false,X.lq 3,0) else (decide (mz C d X≠ []),uo C d X,f-1)
def tk(C:Ch):Nat->Se->Nat->Se
 | 0,X,f=>X
 | k+1,X,f=>if X.st≠1 then X else
  let q:=ff C 0 X f
  if q.1=true\/q.2.1.st≠1 then tk C k q.2.1 q.2.2
  else if q.2.1.ins=[] then q.2.1
  else let r:=ff C (q.2.1.ins.headD 0) q.2.1.kp q.2.2;tk C k r.2.1 r.2.2
def di(C:Ch):Se:=tk C 42 (aap C) 40
def afz(C:Ch)(d:Int)(X:Se):Se:=if X.st=1 then tk C 42 (uo C d X) 39 else X
theorem ajr(l:List Ac)(X:Se):(doS l X).env.length=X.env.length:=aps l ⟨X.env,[],[]⟩
theorem a40(S:List St)(k:Int)(X:Se):(vf S k X).env=X.env:=by
 unfold vf;split
 . rfl
 . split<;>rfl
theorem axy(S:List St)(k:Int)(X:Se):(enS S k X).env.length=X.env.length:=by
 unfold enS;split
 . rw[a40,ajr];rfl
 . rw[ajr];rfl
theorem ags(S:List St)(P:Nat->Bool)(X:Se):∀n:Nat,(nd S P n X).env.length=X.env.length
 | 0=>rfl
 | n+1=>by
  rw[nd];split
  . rw[axy,ags S P X n]
  . exact ags S P X n
theorem akx(S:List St)(Q:Nat->Bool)(X:Se):∀d:Nat,(qe S Q d X).env.length=X.env.length
 | 0=>rfl
 | d+1=>by
  rw[qe];split
  . show(doS _ _).env.length=_;rw[ajr,akx S Q X d]
  . exact akx S Q X d
theorem ayc(R:List Tr)(l:List Int)(X:Se):∀m:Nat,(acU R l m X).env.length=X.env.length
 | 0=>rfl
 | m+1=>by rw[acU,ajr,ayc R l X m]
theorem a2j(C:Ch)(l:List Int)(X:Se):(o8 C l X).env.length=X.env.length:=by unfold o8;simp only;rw[ags,ayc];unfold lvS;rw[akx];rfl
structure Few (C:Ch):Prop where
 kv:∀s,(aq C.ab s).kv.length<=40
 me:∀s,(aq C.ab s).me.length<=40
 acts:∀i,(es C.ay i).acts.length<=40
theorem af0{C:Ch}(d:Few C)(l:List Int){n:Nat}{X:Se}(h:ug n X):ug (n+C.ab.length+l.length+3*C.ab.length) (o8 C l X):=by unfold o8;simp only;refine aar d.kv _ (ajy d.acts ?_ _) _;unfold lvS;exact aal d.me _ (acr h _) _
theorem a9f(l:List Ac)(X:Se):(doS l X).ins.length<=X.ins.length+(l.length+1):=by have h:=agv l ⟨X.env,[],[]⟩;show(X.ins++(doL l ⟨X.env,[],[]⟩).ins).length<=_;rw[aw];simp only[dg]at h;omega
theorem a4z(S:List St)(k:Int)(X:Se):(vf S k X).ins.length<=X.ins.length+2:=by
 unfold vf;split
 . exact Nat.le_add_right _ _
 . split
   . show((X.ins ++ [2000+k]) ++ [2000+(aq S k).par]).length<=_;simp
   . show(X.ins ++ [2000+k]).length<=_;simp
theorem axx{S:List St}(z:∀s,(aq S s).kv.length<=40)(k:Int)(X:Se):(enS S k X).ins.length<=X.ins.length+43:=by
 have d:=a9f (aq S k).kv (X.ta (de X.a k));have E:=z k;have y:(X.ta (de X.a k)).ins=X.ins:=rfl;rw[y]at d;unfold enS;split
 . have F:=a4z S (aq S k).par (doS (aq S k).kv (X.ta (de X.a k)));omega
 . omega
theorem as5{S:List St}(d:∀s,(aq S s).kv.length<=40)(P:Nat->Bool)(X:Se):∀n:Nat,(nd S P n X).ins.length<=X.ins.length+43*n
 | 0=>ai _
 | n+1=>by
  have y:=as5 d P X n;rw[nd];split
  . have:=axx d (n:Int) (nd S P n X);omega
  . omega
theorem aga{C:Ch}(z:l1 C.ab)(E:fewB C=true)(d:Int)(X:Se):uq C d X<=36000:=by
 have h:∀(l:List Int)(a:List Int×Nat),(l.foldl (la C X.env d) a).2<=a.2+1500*l.length:=by
  intro l
  induction l with
  | nil=>intro a;simp
  | cons s r F =>
   intro a
   rw[cx,bm]
   refine a6 (F _) ?_
   have:=ahs X.env d z E s
   unfold la
   simp only
   omega
 have y:=h (lvL C.ab (cfN C X)) ([],0);have I:=adu C.ab (cfN C X) C.ab.length;have J:=z.len;unfold uq gaL;unfold lvL at y ⊢;simp only at y;omega
theorem apf(C:Ch)(env:List Int)(d:Int)(n:Nat):(gaL C env d n).1.length<=C.ab.length:=by
 have h:∀(l:List Int)(a:List Int×Nat),(l.foldl (la C env d) a).1.length<=a.1.length+l.length:=by
  intro l
  induction l with
  | nil=>intro a;simp
  | cons s r z =>
   intro a
   rw[cx,bm]
   refine a6 (z _) ?_
   have:=azx a.1 (yt env d C.ay (vu C.ab s) 0).1
   unfold la
   simp only
   omega
 have y:=h (lvL C.ab n) ([],0);have E:=adu C.ab n C.ab.length;unfold gaL;unfold lvL at y ⊢;simp only[dg]at y;omega
theorem aco(C:Ch)(d:Int)(X:Se):(mz C d X).length<=C.ab.length:=by have y:=a23 C (leftN C (cfN C X)) (gaL C X.env d (cfN C X)).1 [];have z:=apf C X.env d (cfN C X);unfold mz zj siL;rw[dm];simp only[dg]at y;omega
theorem aw4(C:Ch)(d:Int)(X:Se):∀i∈mz C d X,s7 C.ay i=true:=λi y=>by
 obtain⟨x,z,rfl⟩:=gt.1 y
 exact((a7p C (leftN C (cfN C X)) (gaL C X.env d (cfN C X)).1).2 x z).2.2
structure Okw (C:Ch) (X:Se):Prop where
 wb:tf C.ab (cm (cfN C X))
 snd:∀s,s<X.au.length->zy C.ab X.au s
 hl:X.au.length=C.ab.length
 lt:∀x∈X.au,x<4294967296
 el:X.env.length=C.vars.toNat
 fit:∀x∈X.env,uj x
 big:X.ins.length<=300000
 il:X.st=1->X.ins.length<=1100
theorem a0z(P:Nat->Bool)(m:Nat):bset (cm (bset P m)) m=bset P m:=gj m λk d=>adg d
theorem ax6{C:Ch}{X:Se}:bset (cm (cfN C X)) C.ab.length=cfN C X:=a0z _ _
theorem aji{n:Nat}{H:List Nat}(h:H.length=n):pm n H=H:=by unfold pm;rw[h,Nat.sub_self,List.replicate_zero,dz]
theorem Okw.lq{C:Ch}{X:Se}(h:Okw C X){n:Int}(y:n≠1):Okw C (X.lq n):=⟨h.wb,h.snd,h.hl,h.lt,h.el,h.fit,h.big,λd=>absurd d y⟩
theorem Okw.kp{C:Ch}{X:Se}(h:Okw C X):Okw C X.kp:=⟨h.wb,h.snd,h.hl,h.lt,h.el,h.fit,by
 have:=h.big
 show X.ins.tail.length<=_
 rw[List.length_tail]
 omega,λd=>by
 have:=h.il d
 show X.ins.tail.length<=_
 rw[List.length_tail]
 omega⟩
structure Chk (C:Ch):Prop where
 chk:chk eu C=.ok
 few:Few C
 fewB:fewB C=true
 vars:C.vars.toNat<=8
theorem bbl{C:Ch}(h:fewB C=true):Few C where
 kv s:=by
  unfold aq
  rcases et s.toNat C.ab.length with d | d
  . have:=(fx h).2.2.1 s.toNat d
    unfold p7 at this
    simp only[bj,bi]at this
    exact(ny this.1.1).1
  . rw[bv,cn d]
    decide
 me s:=by
  unfold aq
  rcases et s.toNat C.ab.length with d | d
  . have:=(fx h).2.2.1 s.toNat d
    unfold p7 at this
    simp only[bj,bi]at this
    exact(ny this.1.2).1
  . rw[bv,cn d]
    decide
 acts s:=by
  unfold es
  rcases et s.toNat C.ay.length with d | d
  . have:=(fx h).2.2.2 s.toNat d
    unfold qp at this
    simp only[bj,bi]at this
    exact(ny this.1.1).1
  . rw[bv,cn d]
    decide
theorem alq{C:Ch}(h:Go.Proofs.YtpekhdfmmkmjaaaGreatDoor.chk eu C=.ok)(d:fewB C=true):Chk C:=⟨h,bbl d,d,by have:=aa4 h;omega⟩
theorem Okw.round{C:Ch}(y:Chk C){X:Se}(h:Okw C X)(h1:X.st=1)(d:Int):Okw C (uo C d X):=by
 have E:=gr y.chk;have hm:=aga E y.fewB d X;have hi:=h.il h1;have ad:(X.ix (uq C d X)).ins.length<=37100:=by show (X.ins++List.replicate _ (1001:Int)).length<=_;rw[aw,ch];omega
 unfold uo;obtain⟨Z,z⟩:∃Z,X.ix (uq C d X)=Z:=⟨_,rfl⟩;have z1:Z.a=X.a:=by rw[<-z];rfl
 have Y:Z.au=X.au:=by rw[<-z];rfl
 have z3:Z.env=X.env:=by rw[<-z];rfl
 rw[z]at ad ⊢;have F:cfN C Z=cfN C X:=by unfold cfN;rw[z1]
 have ak:tf C.ab (cm (cfN C (tb C (mz C d X) Z)))/\(∀s,s<(tb C (mz C d X) Z).au.length->zy C.ab (tb C (mz C d X) Z).au s)/\(tb C (mz C d X) Z).au.length=C.ab.length/\(∀x∈(tb C (mz C d X) Z).au,x<4294967296)/\(tb C (mz C d X) Z).env.length=C.vars.toNat/\(∀x∈(tb C (mz C d X) Z).env,uj x)/\(tb C (mz C d X) Z).ins.length<=300000:=by
  unfold tb;split
  . rw[F,Y,z3];exact⟨h.wb,h.snd,h.hl,h.lt,h.el,h.fit,by omega⟩
  . have J:=aqt E (mz C d X) (X:=⟨cm (cfN C X),pm C.ab.length X.au,X.env,Z.ins,Z.st,[]⟩) h.wb (by rw[aji h.hl];exact h.snd);have I:=af0 y.few (mz C d X) (n:=0) (X:=⟨cm (cfN C X),pm C.ab.length X.au,X.env,Z.ins,Z.st,[]⟩) ⟨by show X.env.length<=1000;have:=h.el;have:=y.vars;omega,h.fit,by simp,by show Z.ins.length<=_;omega⟩;have al:=aco C d X;have am:=E.len;unfold ahl;rw[F,Y,z3];refine⟨J.1,J.2,?_,?_,?_,I.fit,?_⟩
    . show(o8 C _ _).au.length=_;rw[tj,qd,aji h.hl,h.hl]
    . show ∀x∈(o8 C _ _).au,_;rw[tj];refine aw7 (by omega) _ _ _ _ ?_;show ∀x∈pm C.ab.length X.au,x<4294967296;rw[aji h.hl];exact h.lt
    . show(o8 C _ _).env.length=_;rw[a2j];exact h.el
    . have:=I.ins;show(o8 C _ _).ins.length<=_;omega
 obtain⟨O,Q,k3,k4,U,V,W⟩:=ak;unfold q9;split
 . exact⟨O,Q,k3,k4,U,V,W,λh3=>absurd h3 (by show (3:Int)≠1;decide)⟩
 . exact⟨O,Q,k3,k4,U,V,W,λ_=>by omega⟩
theorem Okw.amh{C:Ch}(z:Chk C){X:Se}(h:Okw C X)(y:X.st=1)(d:Int)(f:Nat):Okw C (ff C d X f).2.1:=by
 unfold ff;split
 . exact h.lq (by decide)
 . exact h.round z y d
theorem Okw.settle{C:Ch}(d:Chk C):∀(k:Nat)(X:Se)(f:Nat),Okw C X->Okw C (tk C k X f)
 | 0,X,f,h=>h
 | k+1,X,f,h=>by
  rw[tk];split
  . exact h
  . rename_i y;have y:X.st=1:=Decidable.not_not.1 y;have E:=h.amh d y 0 f;simp only;split
    . exact Okw.settle d k _ _ E
    . rename_i z;have z:(ff C 0 X f).2.1.st=1:=Decidable.not_not.1 λF=>z (.inr F);split
      . exact E
      . exact Okw.settle d k _ _ (E.kp.amh d z _ _)
theorem a9k{X:Se}(h:(q9 X).st=1):q9 X=X:=by
 unfold q9 at h ⊢;split
 . rename_i d;rw[ao d]at h;exact absurd h (by show (3:Int)≠1;decide)
 . rfl
structure an1 (C:Ch) (X:Se):Prop where
 ins:X.ins=[]
 none:mz C 0 X=[]
 well:uq C 0 X=0
theorem aba{C:Ch}:∀(k:Nat)(X:Se)(f:Nat),(X.st=1->f+2<=k)->1<=k->(tk C k X f).st=1->an1 C (tk C k X f)
 | 0,X,f,_,V,_=>absurd V (by decide)
 | k+1,X,f,Q,_,h=>by
  rw[tk]at h ⊢;by_cases I:X.st=1
  . rw[ah (λO=>O I)]at h ⊢;simp only at h ⊢;have Q:=Q I;by_cases J:(ff C 0 X f).1=true\/(ff C 0 X f).2.1.st≠1
    . rw[ao J]at h ⊢;refine aba k _ _ (λd=>?_) (by omega) h;unfold ff at d ⊢;split
      . rename_i F;rw[ao F]at d;exact absurd d (by show (3:Int)≠1;decide)
      . show f-1+2<=k;omega
    . rw[ah J]at h ⊢;have d:(ff C 0 X f).1=false:=by
       cases hb:(ff C 0 X f).1 with
       | false=>rfl
       | true=>exact absurd (.inl hb) J
      have y:(ff C 0 X f).2.1.st=1:=Decidable.not_not.1 λO=>J (.inr O);have F:f≠0:=λF=>by unfold ff at y;rw[ao F]at y;exact absurd y (by show (3:Int)≠1;decide)
      have Z:ff C 0 X f=(decide (mz C 0 X≠ []),uo C 0 X,f-1):=(by unfold ff;rw[ah F]);rw[Z]at h d y ⊢;simp only at h d y ⊢;have U:mz C 0 X=[]:=(by simpa using d);have hS:uo C 0 X=X.ix (uq C 0 X):=(by unfold uo at y ⊢;rw[a9k y,U];unfold tb;rw[ao rfl]);by_cases z:(uo C 0 X).ins=[]
      . rw[ao z];rw[hS]at z ⊢;have E:X.ins++List.replicate (uq C 0 X) 1001=[]:=z;obtain⟨h7,W⟩:=List.append_eq_nil_iff.1 E;have Y:uq C 0 X=0:=(by have:=congrArg List.length W;simpa using this);exact⟨z,U,Y⟩
      . rw[ah z]at h ⊢;refine aba k _ _ (λE=>?_) (by omega) h;unfold ff at E ⊢;split
        . rename_i ad;rw[ao ad]at E;exact absurd E (by show (3:Int)≠1;decide)
        . show f-1-1+2<=k;omega
  . rw[ao I]at h;exact absurd h I
theorem ald(C:Ch):(aap C).au=List.replicate C.ab.length 0:=by unfold aap;simp only;rw[ad1,aas];rfl
theorem left_bitI{C:Ch}{i:Int}{d k:Nat}(h:cm (leftN C d i) k=true):cm d k=true/\jc C.ab (k:Int) (mj C i)=true/\mj C i≠-1:=by
 unfold leftN at h;split at h
 . rw[awd]at h;cases h
 . rename_i z;have y:=apz h;rw[adg y]at h;unfold agl at h;rw[bj]at h;exact⟨h.1,h.2,z⟩
theorem leftQ_iff{C:Ch}{z:Nat}{l:List Int}{m k:Nat}(E:∀i∈l,∃j:Nat,i=(j:Int)/\j<m):ow C z l m k=true↔∃i∈l,cm (leftN C z i) k=true:=by
 unfold ow;rw[iz];constructor
 . rintro⟨j,y,h⟩;rw[bj,List.contains_iff_mem]at h;exact⟨_,h.1,h.2⟩
 . rintro⟨i,d,h⟩;obtain⟨j,rfl,y⟩:=E i d;exact⟨j,dk.2 y,by rw[bj,List.contains_iff_mem];exact ⟨d,h⟩⟩
theorem entQ_iff{C:Ch}{H:List Nat}{l:List Int}{m k:Nat}(F:∀i∈l,∃j:Nat,i=(j:Int)/\j<m):ahv C H l m k=true↔∃i∈l,(es C.ay i).cj≠ []/\(ae1 C.ab H (mj C i) (es C.ay i).cj).a k=true:=by
 unfold ahv;rw[iz];constructor
 . rintro⟨j,y,h⟩;rw[bj,bj,List.contains_iff_mem,bi]at h;exact⟨_,h.2.1,h.1,h.2.2⟩
 . rintro⟨i,d,z,E⟩;obtain⟨j,rfl,y⟩:=F i d;exact⟨j,dk.2 y,by rw[bj,bj,List.contains_iff_mem,bi];exact ⟨z,d,E⟩⟩
theorem avo{C:Ch}(y:Chk C):Okw C (aap C):=by
 have z:=gr y.chk;have J:(enS C.ab 0 (zq C)).au=List.replicate C.ab.length 0:=by rw[aas];rfl
 have Q:ug 3 (enS C.ab 0 (zq C)):=ad2 y.few.kv 0 (ad8 (aa4 y.chk));have U:ug (3+3*C.ab.length) (aap C):=aar y.few.kv _ Q _;have O:(aap C).ins.length<=1100:=by have E:=axx y.few.kv 0 (zq C);have Y:=as5 y.few.kv (λk=>(ae1 C.ab (enS C.ab 0 (zq C)).au 0 (aq C.ab 0).ip).a k&&!(enS C.ab 0 (zq C)).a k) (enS C.ab 0 (zq C)) C.ab.length;have Z:=z.len;have h4:(zq C).ins.length=0:=rfl;show(nd C.ab _ C.ab.length (enS C.ab 0 (zq C))).ins.length<=_;omega
 refine⟨?_,?_,?_,?_,?_,U.fit,by omega,λ_=>O⟩
 . intro k d;unfold cfN at d;have F:=apz d;rw[adg F]at d;unfold aap at d;simp only at d;rw[apl,J,a98,em F]at d;by_cases I:k=0
   . subst I;show ct (aq C.ab 0).kind=false;rw[z.first];rfl
   . refine am4 z (ac7 z (ady C.ab C.ab.length)).1 0 (aq C.ab 0).ip k ?_;have E:de (zq C).a 0 k=false:=(by unfold de;show(false||decide ((k:Int)=0))=false;rw[df (by omega)];rfl);rw[E]at d;cases V:(ae1 C.ab (List.replicate C.ab.length 0) 0 (aq C.ab 0).ip).a k with
     | true=>rfl
     | false=>rw[V]at d;exact absurd d (by decide)
 . rw[ald];exact ady _ _
 . rw[ald,ch]
 . rw[ald];intro x W;rw[kz W];decide
 . unfold aap;simp only;rw[ags,axy];exact ch
theorem aj9{C:Ch}(d:Chk C):Okw C (di C)/\((di C).st=1->an1 C (di C)) :=
 ⟨(avo d).settle d _ _ _,aba _ _ _ (λ_=>by decide) (by decide)⟩
theorem asq{env:List Int}{d:Int}(s:Int):∀(r:List Tr)(k n:Nat),(∀t∈r,t.ev≠d)->zb env d s r k n=(-1,n)
 | [],k,n,_=>rfl
 | t::r,k,n,h=>by
  have E:=asq (env:=env) s r (k+1) n λx z=>h x (fo _ z);have y:uv env d t=(false,false):=by unfold uv;rw[ah (h t ig)]
  unfold zb;rw[y];simpa using E
theorem asr{env:List Int}{d:Int}{R:List Tr}(h:∀t∈R,t.ev≠d):∀(l:List Int)(n:Nat),yt env d R l n=(-1,n)
 | [],n=>rfl
 | s::l,n=>by have y:=asr (env:=env) h l n;unfold yt;rw[asq s R 0 n h];simpa using y
theorem asp{C:Ch}{env:List Int}{d:Int}(h:∀t∈C.ay,t.ev≠d)(n:Nat):gaL C env d n=([],0):=by
 have:∀(l:List Int),l.foldl (la C env d) ([],0)=([],0):=by
  intro l
  induction l with
  | nil=>rfl
  | cons s r z =>
   rw[cx]
   have y:la C env d ([],0) s=([],0):=by
    unfold la
    rw[asr h]
    rfl
   rw[y,z]
 exact this _
theorem ay2{C:Ch}{y:Int}(h:∀t∈C.ay,t.ev≠y){X:Se}(d:X.st=1->an1 C X):afz C y X=X:=by
 unfold afz;split
 . rename_i E;have d:=d E;have U:mz C y X=[]:=(by unfold mz;rw[asp h];rfl);have V:uq C y X=0:=(by unfold uq;rw[asp h]);have Q:X.ix 0=X:=(by show (⟨X.a,X.au,X.env,X.ins ++ [],X.st,X.out⟩:Se)=X;rw[dz]);have F:∀e,mz C e X=[]->uq C e X=0->uo C e X=X:=λe I J=>by unfold uo tb;rw[I,J,ao rfl,Q];unfold q9;rw[ah (by rw[d.ins];decide)]
   rw[F y U V];have O:ff C 0 X 39=(false,X,38):=(by unfold ff;rw[ah (by decide),d.none,F 0 d.none d.well];rfl);rw[tk,ah (λz=>z E)];simp only[O];rw[ah (by
    rintro(z | z);· cases z
    . exact z E),ao d.ins]
 . rfl
theorem acg{C:Ch}{k:Nat}{X:Se}(f:Nat)(h:X.st≠1):tk C k X f=X:=by
 cases k with
 | zero=>rfl
 | succ k=>rw[tk,ao h]
theorem ach{C:Ch}{k f:Nat}{X:Se}(h:X.st=1)(y:(ff C 0 X f).1=true\/(ff C 0 X f).2.1.st≠1):tk C (k+1) X f=tk C k (ff C 0 X f).2.1 (ff C 0 X f).2.2:=by rw[tk,ah (λd=>d h)];simp only;rw[ao y]
theorem af2{C:Ch}{k f:Nat}{X:Se}(h:X.st=1)(d:(ff C 0 X f).1=false)(y:(ff C 0 X f).2.1.st=1)(z:(ff C 0 X f).2.1.ins=[]):tk C (k+1) X f=(ff C 0 X f).2.1:=by rw[tk,ah (λE=>E h)];simp only;rw[ah (by rw[d,y];simp),ao z]
theorem af1{C:Ch}{k f:Nat}{X:Se}{x:Int}{L:List Int}(h:X.st=1)(y:(ff C 0 X f).1=false)(z:(ff C 0 X f).2.1.st=1)(d:(ff C 0 X f).2.1.ins=x::L) :
 tk C (k+1) X f=tk C k (ff C x (ff C 0 X f).2.1.kp (ff C 0 X f).2.2).2.1 (ff C x (ff C 0 X f).2.1.kp (ff C 0 X f).2.2).2.2:=by
 rw[tk,ah (λE=>E h)];simp only;rw[ah (by rw[y,z];simp),ah (by rw[d];simp),d];rfl
theorem ya(C:Ch)(d:Int)(X:Se)(f:Nat):(ff C d X f).2.2<=f/\((ff C d X f).2.1.st=1->(ff C d X f).2.2<f):=by
 unfold ff;split
 . exact⟨ar _,λh=>absurd h (by show (3:Int)≠1;decide)⟩
 . exact⟨Nat.sub_le _ _,λ_=>by show f-1<f;omega⟩
theorem atn(X:Se):(q9 X).out=X.out:=by unfold q9;split<;>rfl
theorem a3e{C:Ch}(y:Chk C){X:Se}(h:Okw C X)(E:X.st=1)(d:Int):(uo C d X).out.length<=X.out.length+10000:=by
 have z:=gr y.chk;have O:=aga z y.fewB d X;have F:=h.il E;unfold uo;rw[atn];unfold tb;split
 . exact Nat.le_add_right _ _
 . have J:=(af0 y.few (mz C d X) (n:=0) (X:=⟨cm (cfN C (X.ix (uq C d X))),pm C.ab.length X.au,X.env,(X.ix (uq C d X)).ins,X.st,[]⟩) ⟨by show X.env.length<=1000;have:=h.el;have:=y.vars;omega,h.fit,by simp,by show (X.ins++List.replicate (uq C d X) (1001:Int)).length<=_;rw[aw,ch];omega⟩).out;have I:=aco C d X;have Q:=z.len;show(X.out++(o8 C (mz C d X) ⟨cm (cfN C (X.ix (uq C d X))),pm C.ab.length X.au,X.env,(X.ix (uq C d X)).ins,X.st,[]⟩).out).length<=_;rw[aw];omega
theorem a3g{C:Ch}(z:Chk C){X:Se}(h:Okw C X)(y:X.st=1)(d:Int)(f:Nat){B:Nat}(E:X.out.length+10000*f<=B):(ff C d X f).2.1.out.length+10000*(ff C d X f).2.2<=B:=by
 unfold ff;split
 . show X.out.length+10000*0<=B;omega
 . rename_i F;have:=a3e z h y d;show(uo C d X).out.length+10000*(f-1)<=B;omega
def Okb(C:Ch)(X:Se)(f:Nat):Prop:=Okw C X/\f<=40/\X.out.length+10000*f<=500000
theorem Okb.round{C:Ch}(z:Chk C){X:Se}{f:Nat}(h:Okb C X f)(y:X.st=1)(d:Int):Okb C (ff C d X f).2.1 (ff C d X f).2.2 :=
 ⟨h.1.amh z y d f,a6 (ya C d X f).1 h.2.1,a3g z h.1 y d f h.2.2⟩
theorem Okb.kp{C:Ch}{X:Se}{f:Nat}(h:Okb C X f):Okb C X.kp f:=⟨h.1.kp,h.2.1,h.2.2⟩
def Gas(X:Se)(f k:Nat):Prop:=(X.st=1->f+2<=k)/\1<=k
theorem Gas.round{C:Ch}{X:Se}{f k:Nat}(h:Gas X f (k+1))(y:X.st=1)(d:Int):Gas (ff C d X f).2.1 (ff C d X f).2.2 k:=by have F:=h.1 y;have z:=ya C d X f;exact⟨λE=>by have:=z.2 E;omega,by omega⟩
theorem Gas.take{C:Ch}{X:Se}{f k:Nat}(h:Gas X f (k+1))(d:X.st=1)(y:(ff C 0 X f).2.1.st=1)(x:Int):Gas (ff C x (ff C 0 X f).2.1.kp (ff C 0 X f).2.2).2.1 (ff C x (ff C 0 X f).2.1.kp (ff C 0 X f).2.2).2.2 k:=by have F:=h.1 d;have I:=(ya C 0 X f).2 y;have z:=ya C x (ff C 0 X f).2.1.kp (ff C 0 X f).2.2;exact⟨λE=>by have:=z.2 E;omega,by omega⟩
def goN(X:Se)(f:Nat):Nat:=f+if X.st=1 then 1 else 0
theorem aao{C:Ch}{X:Se}{f:Nat}(y:X.st=1)(d:Int):goN (ff C d X f).2.1 (ff C d X f).2.2<goN X f:=by
 have z:=ya C d X f;unfold goN;rw[ao y];split
 . rename_i h;have:=z.2 h;omega
 . omega
def al4(S:List St)(L:List Int)(q:Int):Bool:=wu L.length λi=>jc S (L.getD i 0) q
def apg(S:List St)(L:List Int):List Int->Int
 | []=>-1
 | p::r=>if (aq S p).kind=2/\al4 S L p=true then p else apg S L r
theorem axn(S:List St)(L:List Int):∀(n:Nat)(p:Int),jnF S L n p=apg S L (qm S n p)
 | 0,p=>rfl
 | n+1,p=>by
  rw[jnF,qm];by_cases d:p<0
  . rw[ao d,ao d];rfl
  . rw[ah d,ah d,apg,axn S L n];rfl
theorem a4h(S:List St){L:List Int}(d:L.length≠0):jnT S L=apg S L (wx S (L.getD 0 0)):=by unfold jnT wx;rw[ah d,axn]
theorem apb(S:List St)(L:List Int):∀(n:Nat)(p:Int),-1<=jnF S L n p
 | 0,p=>by simp[jnF]
 | n+1,p=>by
  rw[jnF];split
  . omega
  . split
    . omega
    . exact apb S L n _
theorem ar7(S:List St)(L:List Int){q:Int}(O:0<=q)(y:(aq S q).kind=2)(z:al4 S L q=true):∀(n:Nat)(p:Int),(p+1).toNat<=n->(p=q\/jc S p q=true)->0<=jnF S L n p/\(jnF S L n p=q\/jc S (jnF S L n p) q=true)
 | 0,p,F,d=>by
  exfalso;rcases d with d | d
  . omega
  . have:=lm d;omega
 | n+1,p,F,d=>by
  have I:¬p<0:=by
   rcases d with d | d
   . omega
   . have:=lm d;omega
  rw[jnF,ah I];split
  . exact⟨by omega,d⟩
  . rename_i E;have J:jc S p q=true:=by
     rcases d with d | d
     . exact absurd ⟨by rw[d];exact y,by rw[d];exact z⟩ E
     . exact d
    obtain⟨U,Q⟩:=(n7 _ _ _).1 J;have:=n5 (S:=S) (s:=p) (by omega);exact ar7 S L O y z n (lu S p) (by omega) Q
theorem ahu(S:List St){L:List Int}(E:L.length≠0){q:Int}(F:0<=q)(z:(aq S q).kind=2)(d:al4 S L q=true):0<=jnT S L/\(jnT S L=q\/jc S (jnT S L) q=true):=by unfold jnT;rw[ah E];have y:=zh d 0 (by omega);obtain⟨J,I⟩:=(n7 _ _ _).1 y;have:=n5 (S:=S) (s:=L.getD 0 0) (by omega);exact ar7 S L F z d _ _ (by omega) I
theorem al3{S:List St}{L:List Int}{q:Int}:al4 S L q=true↔∀x∈L,jc S x q=true:=by
 unfold al4;constructor
 . intro h x y;obtain⟨i,d,rfl⟩:=List.mem_iff_getElem.1 y;have:=zh h i d;rwa [bv,ae d]at this
 . intro h;refine nh λi d=>?_;rw[bv,ae d];exact h _ (bw d)
theorem a4g(S:List St){L M:List Int}(I:L.length≠0)(U:M.length≠0)(h:∀x,x∈L↔x∈M):jnT S L=jnT S M:=by
 have gL:-1<=jnT S L:=by unfold jnT;rw[ah I];exact apb S L _ _
 have gM:-1<=jnT S M:=by unfold jnT;rw[ah U];exact apb S M _ _
 have O:∀{A:List Int},0<=jnT S A->(aq S (jnT S A)).kind=2/\al4 S A (jnT S A)=true:=λ{A} F=>by obtain ⟨E,d,W⟩:=a4f S A F;exact⟨d,nh λi hi=>W i hi⟩
 have tr:∀{A B:List Int}{q:Int},(∀x,x∈A↔x∈B)->al4 S A q=true->al4 S B q=true:=λ{A B q} hx F=>al3.2 λx hB=>al3.1 F x ((hx x).2 hB);by_cases J:0<=jnT S L
 . obtain⟨E,d⟩:=O J;obtain⟨Q,y⟩:=ahu S U J E (tr h d);obtain⟨Y,Z⟩:=O Q;obtain⟨d1,z⟩:=ahu S I Q Y (tr (λx=>(h x).symm) Z);rcases y with y | y
   . exact y.symm
   . rcases z with z | z
     . exact z
     . exact absurd (bbw y z) (λe=>a5p e)
 . by_cases V:0<=jnT S M
   . obtain⟨E,d⟩:=O V;exact absurd (ahu S I V E (tr (λx=>(h x).symm) d)).1 J
   . omega
theorem a79(C:Ch){i:Int}(E:s7 C.ay i=true)(I:c6 C.ab (es C.ay i).src=true):mj C i=if (es C.ay i).cj.length=0 then -1 else if ((es C.ay i).inner&&decide ((aq C.ab (es C.ay i).src).kind=2)&&al4 C.ab (gd C.ab (es C.ay i).cj) (es C.ay i).src)=true then (es C.ay i).src else jnT C.ab ((es C.ay i).src::gd C.ab (es C.ay i).cj):=by
 have y:zv C.ay i=es C.ay i:=by unfold zv;rw[ao E]
 have z:kt C.ab (es C.ay i).src=(aq C.ab (es C.ay i).src).kind:=by unfold kt;rw[ao I]
 unfold mj aov;rw[y,z];split
 . rfl
 . rename_i J;have F:=a4g C.ab (L:=gd C.ab (es C.ay i).cj ++ [(es C.ay i).src]) (M:=(es C.ay i).src::gd C.ab (es C.ay i).cj) (by simp) (by simp) (λx=>by simp[or_comm]);rw[F];by_cases d:(es C.ay i).inner=true/\(aq C.ab (es C.ay i).src).kind=2/\(wu (gd C.ab (es C.ay i).cj).length λj=>jc C.ab ((gd C.ab (es C.ay i).cj).getD j 0) (es C.ay i).src)=true
   . rw[ao d,ao (by simp only[bj,bi];exact ⟨⟨d.1,d.2.1⟩,d.2.2⟩)]
   . rw[ah d,ah (λh=>d (by simp only[bj,bi]at h;exact ⟨h.1.1,h.1.2,h.2⟩))]
theorem a36{C:Ch}(E:C.ab.length<=24){n:Nat}(F:tf C.ab (cm n)){i:Int}(h:0<=mj C i):leftN C n i=bset (λx=>gz C.ab (mj C i) x&&cm n x) C.ab.length:=by
 unfold leftN;rw[ah (by omega),ant _ E (λk z=>by
  unfold agl
  cases y:jc C.ab (k:Int) (mj C i) with
  | false=>simp
  | true=>have:=fj.1 (lm y).2.2;omega)]
 refine gj _ λk z=>?_;unfold agl gz;cases d:cm n k with
 | false=>simp
 | true=>rw[F k d];simp
theorem a78{C:Ch}{i:Int}(h:mj C i<0):mj C i=-1:=by
 have z:∀L:List Int,-1<=jnT C.ab L:=λL=>by
  unfold jnT;split
  . omega
  . exact apb _ _ _ _
 unfold mj aov at h ⊢;split at h
 . rename_i d;rw[ao d]
 . rename_i d;rw[ah d];split at h
   . rename_i y;exfalso;have:kt C.ab (zv C.ay i).src=2:=y.2.1;unfold kt at this;split at this
     . rename_i E;have:=fj.1 E;omega
     . omega
   . rename_i y;rw[ah y];have:=z (gd C.ab (zv C.ay i).cj ++ [(zv C.ay i).src]);omega
theorem bbx{C:Ch}{n:Nat}{i:Int}{k:Nat}(h:cm (leftN C n i) k=true):k<C.ab.length:=by have:=fj.1 (lm (left_bitI h).2.1).2.2;omega
theorem ad5(n k:Nat):cm n k=n.testBit k:=by unfold cm;rw[Nat.testBit_eq_decide_div_mod_eq]
theorem a0x(C:Ch)(n:Nat)(i k:Int):((List.range C.ab.length).any λx=>cm (leftN C n i) x&&cm (leftN C n k) x)=decide (leftN C n k &&& leftN C n i≠0):=by
 rw[dh,iz,bi];constructor
 . rintro⟨x,d,h⟩ y;rw[bj,ad5,ad5]at h;have:=qk (leftN C n k) (leftN C n i) x;rw[y,h.1,h.2,Nat.zero_testBit]at this;cases this
 . intro y;obtain⟨x,d⟩:=Nat.exists_testBit_of_ne_zero y;rw[qk,bj]at d;have z:cm (leftN C n i) x=true:=(by rw[ad5];exact d.2);have E:cm (leftN C n k) x=true:=(by rw[ad5];exact d.1);exact⟨x,dk.2 (bbx z),by rw[z,E];rfl⟩
section
variable (C:Ch) (lf:Int→Nat)
def clI(x k:Int):Bool:=decide (lf k &&& lf x≠0)
def inI(x k:Int):Bool:=jc C.ab (es C.ay x).src (es C.ay k).src
def yi(K:List Int)(x:Int):List Int:=if (K.any λk=>clI lf x k&&!inI C x k)=true then K else K.filter (λk=>!clI lf x k) ++ [x]
theorem a4k(K:List Int)(x:Int):yq C.ab (K.map (aat C lf)) (aat C lf x)=(yi C lf K x).map (aat C lf):=by
 unfold yq yi;rw[List.any_map];have d:(K.any (aic C.ab (aat C lf x) ∘ aat C lf))=(K.any λk=>clI lf x k&&!inI C x k):=rfl;rw[d];split
 . rfl
 . rw[ik,List.filter_map];rfl
theorem aqx:∀(l:List Int)(K:List Int),(∀i∈l,s7 C.ay i=true)->l.Nodup->(∀i∈l,i∉K)->l.foldl (m4 C lf) (K.map (aat C lf))=(l.foldl (yi C lf) K).map (aat C lf)
 | [],K,_,_,_=>rfl
 | x::l,K,E,J,z=>by
  rw[cx,cx];obtain⟨Q,O⟩:=List.nodup_cons.1 J;have I:ak8 (K.map (aat C lf)) x=false:=by unfold ak8;rw[List.any_map,gy];intro j F;have:j≠x:=λe=>z x (ig ..) (e▸F);intro d;exact this (of_decide_eq_true d)
  have e:m4 C lf (K.map (aat C lf)) x=(yi C lf K x).map (aat C lf):=by unfold m4;rw[ao ⟨E x (ig ..),I⟩,a4k]
  rw[e];refine aqx l _ (λi y=>E i (fo _ y)) O λi y d=>?_;unfold yi at d;split at d
  . exact z i (fo _ y) d
  . rcases j9.1 d with d | d
    . exact z i (fo _ y) (ey.1 d).1
    . have:=cf.1 d;rw[this]at y;exact Q y
def sfL(l:List Int):List Int:=l.foldl (yi C lf) []
theorem a3u{l:List Int}(y:∀i∈l,s7 C.ay i=true)(d:l.Nodup):zj (siL C lf l)=sfL C lf l:=by unfold siL sfL;have:=aqx C lf l [] y d (λi _ h=>by cases h);rw[show ([]:List nk)=([]:List Int).map (aat C lf) from rfl,this];unfold zj;rw[List.map_map];have:((λc=>c.num) ∘ aat C lf)=λi:Int=>i:=rfl;rw[this,pw]
end
theorem azv{l:List Int}{i:Int}(h:l.Nodup):(uw l i).Nodup:=by
 unfold uw;split
 . exact h
 . rename_i z;rw[List.nodup_append];refine⟨h,by simp,λa d b y e=>z (.inr ?_)⟩;rw[cf.1 y]at e;rw[<-e];simpa using d
theorem aso(C:Ch)(env:List Int)(y:Int):∀(d:List Int)(a:List Int×Nat),a.1.Nodup->(d.foldl (la C env y) a).1.Nodup
 | [],a,h=>h
 | s::d,a,h=>by rw[cx];exact aso C env y d _ (azv h)
theorem a0j(C:Ch)(env:List Int)(d:Int)(n:Nat):(gaL C env d n).1.Nodup:=aso C env d _ _ List.nodup_nil
theorem a3f(C:Ch)(d:Int)(X:Se):mz C d X=sfL C (leftN C (cfN C X)) (gaL C X.env d (cfN C X)).1:=by unfold mz;exact a3u C _ (λi y=>(ann C X.env d _ i y).1) (a0j C X.env d _)
def Se.pre(o:List Ou)(X:Se):Se:=⟨X.a,X.au,X.env,X.ins,X.st,o++X.out⟩
theorem apq(o:List Ou)(l:List Ac)(X:Se):doS l (X.pre o)=(doS l X).pre o:=by simp[doS,Se.pre]
theorem a4x(o:List Ou)(S:List St)(k:Int)(X:Se):vf S k (X.pre o)=(vf S k X).pre o:=by
 unfold vf;split
 . rfl
 . have:(X.pre o).a=X.a:=rfl;rw[this];split<;>rfl
theorem a9e(o:List Ou)(S:List St)(k:Int)(X:Se):enS S k (X.pre o)=(enS S k X).pre o:=by
 have e:(X.pre o).ta (de (X.pre o).a k)=(X.ta (de X.a k)).pre o:=rfl;unfold enS;rw[e,apq];split
 . rw[a4x]
 . rfl
theorem as3(o:List Ou)(S:List St)(P:Nat->Bool)(X:Se):∀n:Nat,nd S P n (X.pre o)=(nd S P n X).pre o
 | 0=>rfl
 | n+1=>by
  rw[nd,nd,as3 o S P X n];split
  . rw[a9e]
  . rfl
theorem art(o:List Ou)(S:List St)(Q:Nat->Bool)(X:Se):∀d:Nat,qe S Q d (X.pre o)=(qe S Q d X).pre o
 | 0=>rfl
 | d+1=>by
  rw[qe,qe,art o S Q X d];split
  . unfold au5;rw[apq];rfl
  . rfl
theorem ayb(o:List Ou)(R:List Tr)(l:List Int)(X:Se):∀m:Nat,acU R l m (X.pre o)=(acU R l m X).pre o
 | 0=>rfl
 | m+1=>by rw[acU,acU,ayb o R l X m,apq]
theorem a2i(o:List Ou)(C:Ch)(l:List Int)(X:Se):o8 C l (X.pre o)=(o8 C l X).pre o:=by have d:(X.pre o).a=X.a:=rfl;have y:(X.pre o).au=X.au:=rfl;have z:∀H,(X.pre o).l8 H=(X.l8 H).pre o:=λH=>rfl;unfold o8;simp only;unfold lvS;rw[d,y,z,art,ayb,as3];rfl
theorem a2k{C:Ch}{X:Se}(d:X.au.length=C.ab.length)(l:List Int):ahl C l X=o8 C l ⟨cm (cfN C X),X.au,X.env,X.ins,X.st,X.out⟩:=by
 unfold ahl;simp only;rw[aji d];have:=a2i X.out C l ⟨cm (cfN C X),X.au,X.env,X.ins,X.st,[]⟩;have e:(Se.mk (cm (cfN C X)) X.au X.env X.ins X.st []).pre X.out=⟨cm (cfN C X),X.au,X.env,X.ins,X.st,X.out⟩:=by show Se.mk _ _ _ _ _ _=_;simp
 rw[e]at this;rw[this];rfl
theorem azj{C:Ch}(y:Chk C){X:Se}(h:Okw C X)(z:X.st=1)(d:Int):(uo C d X).out.length<=X.out.length+6000:=by
 unfold uo;rw[atn];unfold tb;split
 . show X.out.length<=_;omega
 . unfold ahl;show(X.out++_).length<=_;rw[aw];have F:=aga (gr y.chk) y.fewB d X;have E:ug 0 ⟨cm (cfN C (X.ix (uq C d X))),pm C.ab.length (X.ix (uq C d X)).au,(X.ix (uq C d X)).env,(X.ix (uq C d X)).ins,(X.ix (uq C d X)).st,[]⟩:=by
    refine⟨?_,h.fit,by simp,?_⟩
    . show X.env.length<=1000;rw[h.el];have:=y.vars;omega
    . show(X.ins++List.replicate _ 1001).length<=_;rw[aw,ch];have:=h.il z;omega
   have O:=(af0 y.few (mz C d X) E).out;have I:=aco C d X;have J:=(gr y.chk).len;omega
open Go.ChangeShapes Go.WideShapes Go.ChangeAt Go.RowKit
structure a6p (w0:World) (vr:Int) (vs vt vh:Value) (C:Ch) (H:List Nat):Prop where
 has:d8 w0 vs vt C
 au:km w0 vh H
 oz:l1 C.ab
 hlen:H.length<=1000
 good:adj C.ab H
 std:∀s,c6 C.ab s=true->ct (aq C.ab s).kind=true->stD C.ab H s=za C.ab H s
 ofl:∀s,(za C.ab H s).length<=1000
structure DAt (w0:World) (vr:Int) (vs vt vh:Value) (n:Nat) (A:Nat->Bool) (w:World):Prop where
 below:κ w0 w
 box:cg w (w0.heap.size+1) 153 #[ι vr,vs,vt,vh,.slice (some (δ w0.heap.size 0)) n n]
 row:∃cur,cg w w0.heap.size 4 cur/\cur.size=n/\∀i,i<n->cur[i]?=some (.bool (A i))
def a6o(w0:ω)(vr:Int)(vs vt vh:Value)(n:Nat)(A:Nat->Bool)(w:ω)(e:Ending)(d:ω):Prop :=
 e=.returned (.tuple #[])/\w.grownBy d (some w0.heap.size)/\DAt w0 vr vs vt vh n A d
section
variable {w0:World} {vr:Int} {vs vt vh:Value} {n:Nat} {A:Nat→Bool} {w:World}
theorem DAt.lt(h:DAt w0 vr vs vt vh n A w):w0.heap.size<w.heap.size:=by obtain ⟨y,d,_⟩:=h.row;exact d.lt
theorem DAt.kept{z:ω}(h:DAt w0 vr vs vt vh n A w)(d:κ w z):DAt w0 vr vs vt vh n A z:=by obtain ⟨E,y,F⟩:=h.row;exact⟨h.below.trans (d.mono h.below.size),h.box.below d h.box.lt,E,y.below d y.lt,F⟩
theorem DAt.drew(h:DAt w0 vr vs vt vh n A w):DAt w0 vr vs vt vh n A w.drew:=⟨h.below.drew,h.box,h.row⟩
theorem DAt.put(h:DAt w0 vr vs vt vh n A w)(k:Nat)(J:k<n):DAt w0 vr vs vt vh n (de A (k:Int)) (w.setCell (δ w0.heap.size k) (.bool true)):=by
 obtain⟨I,y,z,E⟩:=h.row;refine⟨h.below.setCell (ai _) _,h.box.db (by omega) _ _,_,y.ca k _,by simpa using z,λi F=>?_⟩;by_cases d:k=i
 . subst d;rw[ep (by omega)];simp[de]
 . rw[da d,E i F];have:¬((i:Int)=(k:Int)):=(by omega);simp[de,this]
theorem DAt.cells(h:DAt w0 vr vs vt vh n A w):w.cell? (δ (w0.heap.size+1) 0)=some (ι vr)/\w.cell? (δ (w0.heap.size+1) 1)=some vs/\w.cell? (δ (w0.heap.size+1) 2)=some vt/\w.cell? (δ (w0.heap.size+1) 3)=some vh/\w.cell? (δ (w0.heap.size+1) 4)=some (.slice (some (δ w0.heap.size 0)) n n):=⟨h.box.cell 0,h.box.cell 1,h.box.cell 2,h.box.cell 3,h.box.cell 4⟩
theorem DAt.bit(h:DAt w0 vr vs vt vh n A w)(k:Nat)(z:k<n):w.cell? (δ w0.heap.size k)=some (.bool (A k))/\w.frozen? (δ w0.heap.size k)=false:=by obtain ⟨E,d,F,y⟩:=h.row;exact⟨(d.cell k).trans (y k z),d.frozen k⟩
end
def amc(w0:ω)(vr:Int)(vs vt vh:Value)(C:Ch)(H:List Nat)(f:Nat):Prop :=
 ∀(s:Int)(A:Nat->Bool)(w:ω),c6 C.ab s=true->rk C.ab s<f->DAt w0 vr vs vt vh C.ab.length A w->Calls prog 109 #[φ (w0.heap.size+1) 0,ι s] w (a6o w0 vr vs vt vh C.ab.length (dB C.ab H f A s) w)
def aci(S:List St)(A:Nat->Bool)(k:Int)(m:Nat):Bool:=(List.range m).any λx=>A x&&jc S (x:Int) k
theorem auf(S:List St)(A:Nat->Bool)(k:Int)(m:Nat):aci S A k (m+1)=(aci S A k m||(A m&&jc S (m:Int) k)):=by unfold aci;rw[mm,mq];simp
theorem aih{w0:ω}{vr:Int}{vs vt vh:Value}{C:Ch}{H:List Nat}{f:Nat}(Q:a6p w0 vr vs vt vh C H)(hF:amc w0 vr vs vt vh C H f)(p:Int)(A:Nat->Bool)(w:ω)(hE:DAt w0 vr vs vt vh C.ab.length A w)(hp:∀k∈lj C.ab p,c6 C.ab k=true/\rk C.ab k<f) :
 Calls prog 170 #[φ (w0.heap.size+1) 0,ι p] w (a6o w0 vr vs vt vh C.ab.length (ym C.ab (g6 C.ab) (dB C.ab H f) p A) w):=by
 have HN:=aa Q;have HF:=aa hF;have HP:=aa hp;have y:=aa hE;have V:Hid (ym C.ab (g6 C.ab) (dB C.ab H f) p A=(lj C.ab p).foldl (ke (g6 C.ab) (dB C.ab H f)) A):=aa rfl;have b3:=aa (am8 vr p vs vt C w (Q.has.below hE.below) (by have:=Q.oz.len;omega));have d1:(lj C.ab p).length<=24:=by have:=ak6 C.ab p;have:=Q.oz.len;omega
 have d2:=Q.oz.len;generalize ym C.ab (g6 C.ab) (dB C.ab H f) p A=R at *;generalize lj C.ab p=L at *;obtain⟨sA,av,rfl,d5⟩:=br.slice Q.has.1;obtain⟨Y,Z,c2,c3,c4⟩:=hE.cells;clear Q hF hE hp;go_enter func170,ntmps170;go_wp2_with fail;refine b3.out.mono ?_;rintro e w1⟨bs,v1,rfl,ca⟩;have b0:=aa (y.out.kept bs);have b1:Hid (w.grownBy w1 (some w0.heap.size)):=aa (gc bs _);have a9:Hid (gp (λb=>b≠w0.heap.size) w1 v1 L):=aa (gp.fg ca λb hb=>by have:=y.out.lt;omega);obtain⟨mA,a2,rfl,d4⟩:=br.slice a9.out;clear bs ca Y Z c2 c3 c4 b3;go_wp2_with fail;go_loopw [5] (λi wr=>∃(k:Nat)(d:Nat->Bool),k<=L.length/\i=ι (k:Int)/\Hid (DAt w0 vr (.slice sA C.ab.length av) vt vh C.ab.length d wr)/\Hid (w.grownBy wr (some w0.heap.size))/\Hid (gp (λb=>b≠w0.heap.size) wr (.slice mA L.length a2) L)/\Hid (R=(L.drop k).foldl (ke (g6 C.ab) (dB C.ab H f)) d)) (λi _=>L.length-(intOf i).toNat)
 case atStart=>exact ⟨0,A,ar _,rfl,b0,b1,a9,V⟩
 case round =>
  clear b0 b1 a9 V y;obtain⟨k,d,hk,rfl,y,J,E,V⟩:=hrel;obtain⟨wo,rfl⟩:∃wo:ω,wo=wr:=⟨_,rfl⟩;by_cases ad:k<L.length
  . obtain⟨F,O,c7,d3,db,ds⟩:=(let ⟨_,_,h1,_,h3⟩:=E.out;by injection h1 with e1 e2 e3;subst e1;exact h3 k _ (ae ad):∃b o,mA=some (δ b o)/\b<wo.heap.size/\(d7 wo b (o+k*1) L[k])/\_);subst c7;have b8:=V.out.trans (nf _ L k ad d);have a1:=aa b8;have b5:=aa (HP.out L[k] (bw ad));have cb:Hid (L[k]?=some L[k]):=aa (ae ad);generalize L[k]=x at *;have b6:Hid (g6 C.ab d x=aci C.ab d x C.ab.length):=aa rfl;have a3:Hid (∀W,gp (λb=>b≠w0.heap.size) W (.slice (some (δ F O)) L.length a2) L->W.cell? (δ F (O+k))=some (ι x)/\F<W.heap.size):=aa (λW h=>by obtain ⟨_,_,h1,_,h3⟩:=h;injection h1 with e1 e2 e3;subst e1;obtain⟨b,o,hb,ad,hi,_⟩:=h3 k x cb.out;injection hb with hb;injection hb with e4 e5;subst e4;subst e5;unfold d7 at hi;rw[bq]at hi;exact⟨hi,ad⟩);obtain⟨Y,Z,c2,c3,c4⟩:=y.out.cells;clear db ds b8 V;go_wp2_with fail;go_loopw [6,7,8] (λsv i iv wr=>∃(m:Nat),m<=C.ab.length/\i=ι (m:Int)/\sv=.bool (aci C.ab d x m)/\Hid (DAt w0 vr (.slice sA C.ab.length av) vt vh C.ab.length d wr)/\Hid (w.grownBy wr (some w0.heap.size))/\Hid (gp (λb=>b≠w0.heap.size) wr (.slice (some (δ F O)) L.length a2) L)) (λ_ i _ _=>C.ab.length-(intOf i).toNat)
    case atStart=>exact ⟨0,ar _,rfl,rfl,y,J,E⟩
    case round =>
     clear y J E Y Z c2 c3 c4;obtain⟨m,hm,rfl,rfl,y,J,E⟩:=hrel;obtain⟨U,rfl⟩:∃U:ω,U=wr:=⟨_,rfl⟩;obtain⟨Y,Z,c2,c3,c4⟩:=y.out.cells;by_cases c5:m<C.ab.length
     . have ax:=aa y.out.drew;have a4:=aa y.out.drew;have b2:=aa (mw J.out);have a0:=aa (E.out.below (ag _ U).drew);have bk:=aa (a3.out _ a0.out).1;have b4:=aa (a3.out _ a0.out).2;have bf:=aa (auf C.ab d x m);clear y J E;go_wp2_with fail;clear Y Z c2 c3 c4;refine cr (λW=>(W.cell? (δ (w0.heap.size+1) 0)=some (ι vr)/\W.cell? (δ (w0.heap.size+1) 1)=some (.slice sA C.ab.length av)/\W.cell? (δ (w0.heap.size+1) 2)=some vt)/\W.cell? (δ F (O+k))=some (ι x)) [] ?_;have bb:Hid ((U.drew.cell? (δ (w0.heap.size+1) 0)=some (ι vr)/\U.drew.cell? (δ (w0.heap.size+1) 1)=some (.slice sA C.ab.length av)/\U.drew.cell? (δ (w0.heap.size+1) 2)=some vt)/\U.drew.cell? (δ F (O+k))=some (ι x)):=aa ⟨⟨ax.out.cells.1,ax.out.cells.2.1,ax.out.cells.2.2.1⟩,bk.out⟩;refine af 0 (φ (w0.heap.size+1) 0) ?_;refine af 1 (φ (w0.heap.size+1) 0) ?_;refine af 2 (φ (w0.heap.size+1) 0) ?_;refine a7 3 (.agg #[ι vr,.slice sA C.ab.length av,vt]) (bb.out) ?_;refine af 4 (ι (m:Int)) ?_;refine af 5 (.slice (some (δ F O)) L.length a2) ?_;refine af 6 (ι (k:Int)) ?_;refine af 7 (φ F (O+k)) ?_;refine a7 8 (ι x) (bb.out) ?_;try simp only[Act.put,sx]
       refine a8 9 (λK HK=>?_);go_simp;refine(ze vr x _ vt C (by have:=HN.out.oz.len;unfold dw;omega) _ (m:Int) _ (ai _) (HN.out.has.below a4.out.below)).mono ?_;rintro e w3⟨rfl,al⟩;have I:=aa (a4.out.kept al);have a5:=aa (sh b2.out al);have ba:=aa (a0.out.below al);have b7:=aa ((al.cell (p:=(δ F (O+k))) b4.out).trans bk.out);clear al;go_simp;refine HK.out _ _ (λ_ hS=>⟨⟨I.out.cells.1,I.out.cells.2.1,I.out.cells.2.2.1⟩,b7.out⟩) ?_;clear HK K;try simp only[Act.put,sx]
       refine af 10 (.bool (jc C.ab (m:Int) x)) ?_;try simp only[Act.put,sx]
       refine ce ?_;obtain⟨Y,Z,c2,c3,c4⟩:=I.out.cells;have dy:=(I.out.bit m c5).1;clear bb ax a4 b2 a0 bk b4 b7;generalize jc C.ab (m:Int) x=ci at *;generalize d m=am at *;cases z:aci C.ab d x m with
       | true =>
        have ak:Hid (aci C.ab d x (m+1)=true):=aa (by rw[bf.out,z];rfl);clear z;go_wp2;go_roundw
        case rel=>exact ⟨m+1,by omega,by go_num,by rw[ak.out],I,a5,ba⟩
        case measure=>simp[intOf];omega
       | false =>
        cases am with
        | true =>
         have ak:Hid (aci C.ab d x (m+1)=ci):=aa (by rw[bf.out,z];simp)
         clear z
         go_wp2
         go_roundw
         case rel=>exact ⟨m+1,by omega,by go_num,by rw[ak.out],I,a5,ba⟩
         case measure=>simp[intOf];omega
        | false =>
         have ak:Hid (aci C.ab d x (m+1)=false):=aa (by rw[bf.out,z];simp)
         clear z
         go_wp2
         go_roundw
         case rel=>exact ⟨m+1,by omega,by go_num,by rw[ak.out],I,a5,ba⟩
         case measure=>simp[intOf];omega
     . obtain rfl:m=C.ab.length:=(by omega);have d0:=(a3.out _ E.out).1;cases hs:g6 C.ab d x with
       | true =>
        have HS:Hid (ke (g6 C.ab) (dB C.ab H f) d x=d):=aa (by unfold ke;rw[ao hs]);rw[HS.out]at a1;have z:aci C.ab d x C.ab.length=true:=(by rw[<-b6.out];exact hs);rw[z];clear hs z;go_wp2;go_roundw
        case rel=>exact ⟨k+1,d,by omega,by go_num,y,J,E,a1⟩
        case measure=>simp[intOf];omega
       | false =>
        have HS:Hid (ke (g6 C.ab) (dB C.ab H f) d x=dB C.ab H f d x):=aa (by unfold ke;rw[ah (by rw[hs];simp)]);rw[HS.out]at a1;have z:aci C.ab d x C.ab.length=false:=(by rw[<-b6.out];exact hs);rw[z];clear hs z;go_wp2_with fail;refine(HF.out x d _ b5.out.1 b5.out.2 y.out).mono ?_;rintro e w4⟨rfl,bt,b9⟩;have cc:=aa b9;have cl:=aa (J.out.trans bt);have co:=aa (E.out.grown bt λb _ hb h=>hb (by injection h));clear bt b9;go_wp2;go_roundw
        case rel=>exact ⟨k+1,dB C.ab H f d x,by omega,by go_num,cc,cl,co,a1⟩
        case measure=>simp[intOf];omega
  . obtain rfl:k=L.length:=(by omega);have hR:=V.out;rw[bz]at hR;have cv:=aa hR;clear hR;go_wp2;go_end0;exact⟨rfl,J.out,by rw[cv.out];exact y.out⟩
theorem afi{w0:ω}{vr:Int}{vs vt vh:Value}{C:Ch}{H:List Nat}{f:Nat}(Z:a6p w0 vr vs vt vh C H)(hF:amc w0 vr vs vt vh C H f)(s z:Int)(A:Nat->Bool)(w:ω)(hs:c6 C.ab s=true)(hE:DAt w0 vr vs vt vh C.ab.length A w)(hp:ama C.ab f z s) :
 Calls prog 111 #[φ (w0.heap.size+1) 0,ι s,ι z] w (a6o w0 vr vs vt vh C.ab.length (ld C.ab (g6 C.ab) de (dB C.ab H f) z A s) w):=by
 obtain⟨Y,rfl,d6⟩:=fq hs;have HN:=aa Z;have HK:=aa (λp A w=>aih Z hF p A w);have I:=aa hE;have HU:=aa (akh vr vs vt C Y w (Z.has.below hE.below) (by have:=Z.oz.len;omega) d6);have HR:Hid (ld C.ab (g6 C.ab) de (dB C.ab H f) z A (Y:Int)=upW C.ab (g6 C.ab) de (dB C.ab H f) z (wx C.ab (Y:Int)) A):=aa rfl;have er:=aad C.ab (Y:Int);have ex:=Z.oz.len;have HP:Hid (∀p∈(wx C.ab (Y:Int)).takeWhile (λy=>decide (y≠z)),c6 C.ab p=true/\ct (aq C.ab p).kind=false/\∀k∈lj C.ab p,c6 C.ab k=true/\rk C.ab k<f):=aa hp;have c5:Hid (∀q∈wx C.ab (Y:Int),c6 C.ab q=true):=aa (λq hq=>aql hq);generalize ld C.ab (g6 C.ab) de (dB C.ab H f) z A (Y:Int)=R at *;generalize wx C.ab (Y:Int)=L at *;obtain⟨sA,av,rfl,e7⟩:=br.slice Z.has.1;obtain⟨c0,c1,c2,c3,c4⟩:=hE.cells;clear Z hF hE hp hs;go_enter func111,ntmps111;go_wp2_with fail;refine HU.out.mono ?_;rintro e w1⟨bb,v1,rfl,cc⟩;have b2:=aa (I.out.kept bb);have b4:Hid (w.grownBy w1 (some w0.heap.size)):=aa (gc bb _);have a3:Hid (gp (λb=>b≠w0.heap.size) w1 v1 L):=aa (gp.fg cc λb V=>by have:=I.out.lt;omega);obtain⟨mA,a2,rfl,e6⟩:=br.slice a3.out;clear bb cc c0 c1 c2 c3 c4 HU;go_wp2_with fail;go_loopw [7] (λi wr=>∃(k:Nat)(J:Nat->Bool),k<=L.length/\i=ι (k:Int)/\Hid (DAt w0 vr (.slice sA C.ab.length av) vt vh C.ab.length J wr)/\Hid (w.grownBy wr (some w0.heap.size))/\Hid (gp (λb=>b≠w0.heap.size) wr (.slice mA L.length a2) L)/\Hid (∀p∈(L.drop k).takeWhile (λy=>decide (y≠z)),c6 C.ab p=true/\ct (aq C.ab p).kind=false/\∀k∈lj C.ab p,c6 C.ab k=true/\rk C.ab k<f)/\Hid (R=upW C.ab (g6 C.ab) de (dB C.ab H f) z (L.drop k) J)) (λi _=>L.length-(intOf i).toNat)
 case atStart=>exact ⟨0,A,ar _,rfl,b2,b4,a3,HP,HR⟩
 case round =>
  clear b2 b4 a3 HR I HP;obtain⟨k,J,hk,rfl,I,HG,HL,HP,HR⟩:=hrel;obtain⟨d,rfl⟩:∃d:ω,d=wr:=⟨_,rfl⟩;by_cases am:k<L.length
  . obtain⟨E,F,d5,e0,cb,b0⟩:=(let ⟨_,_,h1,_,h3⟩:=HL.out;by injection h1 with e1 e2 e3;subst e1;exact h3 k _ (ae am):∃b o,mA=some (δ b o)/\b<d.heap.size/\(d7 d b (o+k*1) L[k])/\_);subst d5;have d0:d.cell? (δ E (F+k))=some (ι L[k]):=(by have:=cb;unfold d7 at this;rwa [bq]at this);have Q:=HR.out;rw[bp am,upW]at Q;have ad:=HP.out;rw[bp am,j6]at ad;obtain⟨j,hj,bs⟩:=fq (c5.out L[k] (bw am));have cl:Hid (L[k]?=some (j:Int)):=aa (by rw[ae am,hj]);rw[hj]at d0 Q ad;clear cb hj HR HP;by_cases ak:(j:Int)=z
    . rw[ao ak]at Q;have a5:=aa Q;have eg:((j:Int) != z)=false:=(by simpa using ak);clear Q ak ad b0;go_wp2;go_end0;exact⟨rfl,HG.out,by rw[a5.out];exact I.out⟩
    . rw[ah ak]at Q;rw[ao (by simpa using ak)]at ad;have eg:((j:Int) != z)=true:=(by simpa using ak);have b9:=aa Q;have db:=aa (ad (j:Int) (ig ..));have b8:Hid (∀p∈(L.drop (k+1)).takeWhile (λy=>decide (y≠z)),c6 C.ab p=true/\ct (aq C.ab p).kind=false/\∀k∈lj C.ab p,c6 C.ab k=true/\rk C.ab k<f):=aa (λp hp=>ad p (fo _ hp));have dy:Hid (d.cell? (δ E (F+k))=some (ι (j:Int))):=aa d0;have b1:Hid (d.cell? (δ w0.heap.size j)=some (.bool (J j))/\d.frozen? (δ w0.heap.size j)=false):=aa (I.out.bit j bs);have ek:Hid (E≠w0.heap.size):=aa b0;clear ak Q ad b0;go_wp2_with fail;clear d0;obtain⟨d1,d3⟩:=b1.out;refine cr (λW=>W.cell? (δ (w0.heap.size+1) 4)=some (.slice (some (δ w0.heap.size 0)) C.ab.length C.ab.length)/\W.cell? (δ E (F+k))=some (ι (j:Int))) [9] ?_;have a9:Hid (d.drew.cell? (δ (w0.heap.size+1) 4)=some (.slice (some (δ w0.heap.size 0)) C.ab.length C.ab.length)/\d.drew.cell? (δ E (F+k))=some (ι (j:Int))):=aa ⟨I.out.cells.2.2.2.2,dy.out⟩;refine af 0 (φ (w0.heap.size+1) 0) ?_;refine af 1 (φ (w0.heap.size+1) 0) ?_;refine af 2 (φ (w0.heap.size+1) 4) ?_;refine a7 3 (.slice (some (δ w0.heap.size 0)) C.ab.length C.ab.length) (a9.out) ?_;refine af 4 (.slice (some (δ E F)) L.length a2) ?_;refine af 5 (ι (k:Int)) ?_;refine af 6 (φ E (F+k)) ?_;refine a7 7 (ι (j:Int)) (a9.out) ?_;refine af 8 (φ w0.heap.size j) ?_;try simp only[Act.put,sx]
      refine a8 9 (λK HK=>?_);go_simp;refine HK.out _ _ (λh=>absurd h (by decide)) ?_;clear HK K;try simp only[Act.put,sx]
      refine ce ?_;have ax:Hid (DAt w0 vr (.slice sA C.ab.length av) vt vh C.ab.length (de J (j:Int)) (d.setCell (δ w0.heap.size j) (.bool true)).drew):=aa (I.out.put j bs).drew;have b5:Hid (w.grownBy (d.setCell (δ w0.heap.size j) (.bool true)).drew (some w0.heap.size)):=aa (mw (afc HG.out j _));have a4:Hid (gp (λb=>b≠w0.heap.size) (d.setCell (δ w0.heap.size j) (.bool true)).drew (.slice (some (δ E F)) L.length a2) L):=aa (HL.out.grown (mw (afc abk j _)) λb _ V h=>V (by injection h));obtain⟨b,o,el,vi,ve,vx,eb,ev,d2,ci,d4⟩:=HN.out.has.st bs;injection eb with e1 e2 e3;subst e1;subst e3;generalize (d.setCell (δ w0.heap.size j) (.bool true)).drew=w5 at *;have hq:=(ci.below ax.out.below d2).1;generalize ca:(aq C.ab (j:Int)).kind=O at *;have a0:Hid (w5.drew.cell? (δ (w0.heap.size+1) 1)=some (.slice (some (δ b o)) C.ab.length av)/\w5.drew.cell? (δ E (F+k))=some (ι (j:Int))/\w5.drew.cell? (δ b (o+j*5))=some (ι O)):=aa ⟨ax.out.cells.2.1,(by obtain ⟨_,_,h1,_,h3⟩:=a4.out;injection h1 with e1 e2 e3;subst e1;obtain⟨b,o,V,am,hi,_⟩:=h3 k _ cl.out;injection V with V;injection V with e4 e5;subst e4;subst e5;unfold d7 at hi;rw[bq]at hi;exact hi),hq⟩;have b3:=aa ax.out.drew;have b6:=aa (mw b5.out);have b7:=aa (a4.out.below (ag _ w5).drew);have ds:=aa a0.out.2.1;have a1:Hid (zu C.ab (g6 C.ab) de (dB C.ab H f) J (j:Int)=if O=3 then ym C.ab (g6 C.ab) (dB C.ab H f) (j:Int) (de J (j:Int)) else de J (j:Int)):=aa (by rw[<-ca];rfl);generalize zu C.ab (g6 C.ab) de (dB C.ab H f) J (j:Int)=U at *;clear ci d4 hq d3 d1 b1 a9 I HG HL ca ax b5 a4;go_wp2_with fail;refine cr (λW=>W.cell? (δ (w0.heap.size+1) 1)=some (.slice (some (δ b o)) C.ab.length av)/\W.cell? (δ E (F+k))=some (ι (j:Int))/\W.cell? (δ b (o+j*5))=some (ι O)) [] ?_;refine af 0 (φ (w0.heap.size+1) 0) ?_;refine af 1 (φ (w0.heap.size+1) 0) ?_;refine af 2 (φ (w0.heap.size+1) 0) ?_;refine af 3 (φ (w0.heap.size+1) 1) ?_;refine a7 4 (.slice (some (δ b o)) C.ab.length av) (a0.out) ?_;refine af 5 (.slice (some (δ E F)) L.length a2) ?_;refine af 6 (ι (k:Int)) ?_;refine af 7 (φ E (F+k)) ?_;refine a7 8 (ι (j:Int)) (a0.out) ?_;refine af 9 (φ b (o+j*5)) ?_;refine af 10 (φ b (o+j*5)) ?_;refine a7 11 (ι O) (a0.out) ?_;refine af 12 (.bool (O==3)) ?_;try simp only[Act.put,sx]
      refine ce ?_;have e8:=ds.out;by_cases al:O=3
      . have hU:=a1.out;rw[ao al]at hU;have ba:=aa hU;have bt:(O==3)=true:=(by simpa using al);rw[bt];clear hU al a1;go_wp2_with fail;refine(HK.out (j:Int) _ _ b3.out db.out.2.2).mono ?_;rintro e w7⟨rfl,bk,bf⟩;rw[<-ba.out]at bf;have co:=aa bf;have cv:=aa (b6.out.trans bk);have c7:=aa (b7.out.grown bk λb _ V h=>V (by injection h));clear bk bf;go_wp2;go_roundw
        case rel=>exact ⟨k+1,U,by omega,by go_num,co,cv,c7,b8,b9⟩
        case measure=>simp[intOf];omega
      . have hU:=a1.out;rw[ah al]at hU;have ba:=aa hU;have bt:(O==3)=false:=(by simpa using al);rw[bt];clear hU al a1;go_wp2;go_roundw
        case rel=>exact ⟨k+1,U,by omega,by go_num,by rw[ba.out];exact b3,b6,b7,b8,b9⟩
        case measure=>simp[intOf];omega
  . obtain rfl:k=L.length:=(by omega);have hR:=HR.out;rw[bz,upW]at hR;have a5:=aa hR;clear hR;go_wp2;go_end0;exact⟨rfl,HG.out,by rw[a5.out];exact I.out⟩
theorem zk{K:Nat->Prop}{W:ω}{z E n cap:Nat}{L:List Int}{k:Nat}{x:Int}(h:gp K W (.slice (some (δ z E)) n cap) L)(U:L[k]?=some x):W.cell? (δ z (E+k))=some (ι x):=by obtain ⟨_,_,O,_,Q⟩:=h;injection O with F V Y;subst F;obtain⟨b,o,d,Z,y,_⟩:=Q k x U;injection d with d;injection d with I J;subst I;subst J;unfold d7 at y;rwa [bq]at y
theorem a0s{w0:ω}{vr:Int}{vs vt vh:Value}{C:Ch}{H:List Nat}{f:Nat}(hN:a6p w0 vr vs vt vh C H)(hF:amc w0 vr vs vt vh C H f):amc w0 vr vs vt vh C H (f+1):=by
 intro s A w hs hr hE;have ax:=hN.oz;obtain⟨k,rfl,hk⟩:=fq hs;obtain⟨b,o,ak,vi,ve,vx,rfl,fn,b0,ds,ca⟩:=hN.has.st hk;have am:=aa ds;have HN:=aa hN;have HF:=aa hF;have E:=aa hE;have f0:=ax.len;have bb:=aa (acs vr _ vt C k w (hN.has.below hE.below) (by omega) hk);obtain⟨c0,c1,c2,c3,c4⟩:=hE.cells;have d:dB C.ab H (f+1) A (k:Int)=dB C.ab H (f+1) A (k:Int):=rfl;conv at d=>rhs;rw[dB,ah (show ¬c6 C.ab (k:Int)=false by rw[hs];simp)]
 generalize dB C.ab H (f+1) A (k:Int)=RR at *;cases Z:ct (aq C.ab (k:Int)).kind with
 | true =>
  rw[Z]at bb;rw[ao Z]at d;have e5:=aa (hN.std _ hs Z);have a3:=acp ax hN.good hs Z (aq C.ab (k:Int)).par;have d1:Hid (∀x∈za C.ab H (k:Int),c6 C.ab x=true/\rk C.ab x<f/\ama C.ab f (aq C.ab (k:Int)).par x):=aa (λx hx=>⟨(a3 x hx).1,by have:=(a3 x hx).2.1;omega,λp hp=>⟨((a3 x hx).2.2 p hp).1,((a3 x hx).2.2 p hp).2.1,λy hy=>⟨(((a3 x hx).2.2 p hp).2.2 y hy).1,by have:=(((a3 x hx).2.2 p hp).2.2 y hy).2;omega⟩⟩⟩);have d5:=aa (hN.ofl (k:Int));have eb:Hid (RR=(za C.ab H (k:Int)).foldl (ld C.ab (g6 C.ab) de (dB C.ab H f) (aq C.ab (k:Int)).par) ((za C.ab H (k:Int)).foldl (dB C.ab H f) A)):=aa d;generalize za C.ab H (k:Int)=l at *;generalize hP:(aq C.ab (k:Int)).par=P at *;have am:Hid (StC w0 b (o+k*5) (aq C.ab (k:Int)) vi ve vx):=am;have am:Hid (StC w0 b (o+k*5) ⟨(aq C.ab (k:Int)).kind,P,[],[],[]⟩ vi ve vx):=aa (by rw[<-hP];exact am.out);clear hN hF hE hs hr ds ca d Z a3 hP ax;go_enter func109,ntmps109;go_wp2_with fail;refine bb.out.mono ?_;rintro e Q⟨rfl,a4⟩;have a0:=aa (E.out.kept a4);have bk:Hid (w.grownBy Q (some w0.heap.size)):=aa (gc a4 _);have V:=aa a0.out.drew;have b5:=aa (mw bk.out);have a1:Hid ((Q.drew.cell? (δ (w0.heap.size+1) 0)=some (ι vr)/\Q.drew.cell? (δ (w0.heap.size+1) 1)=some (.slice (some (δ b o)) C.ab.length ak)/\Q.drew.cell? (δ (w0.heap.size+1) 2)=some vt)/\Q.drew.cell? (δ (w0.heap.size+1) 3)=some vh):=aa ⟨⟨V.out.cells.1,V.out.cells.2.1,V.out.cells.2.2.1⟩,V.out.cells.2.2.2.1⟩;clear a4 c0 c1 c2 c3 c4 bb E a0 bk;go_wp2_with fail;refine cr (λW=>(W.cell? (δ (w0.heap.size+1) 0)=some (ι vr)/\W.cell? (δ (w0.heap.size+1) 1)=some (.slice (some (δ b o)) C.ab.length ak)/\W.cell? (δ (w0.heap.size+1) 2)=some vt)/\W.cell? (δ (w0.heap.size+1) 3)=some vh) [] ?_;refine af 0 (φ (w0.heap.size+1) 0) ?_;refine af 1 (φ (w0.heap.size+1) 0) ?_;refine af 2 (φ (w0.heap.size+1) 0) ?_;refine a7 3 (.agg #[ι vr,.slice (some (δ b o)) C.ab.length ak,vt]) (a1.out) ?_;refine af 4 (φ (w0.heap.size+1) 0) ?_;refine af 5 (φ (w0.heap.size+1) 0) ?_;refine af 6 (φ (w0.heap.size+1) 3) ?_;refine a7 7 vh (a1.out) ?_;refine af 8 (ι (k:Int)) ?_;try simp only[Act.put,sx]
  refine a8 9 (λK HK=>?_);go_simp;refine(aka vr _ vt vh C H k w0 _ V.out.below HN.out.has HN.out.au (by have:=HN.out.oz.len;omega) HN.out.hlen hk).mono ?_;rintro e w3⟨c5,v3,rfl,c7⟩;rw[e5.out]at c7;have a9:=aa (V.out.kept c5);have d4:=aa (sh b5.out c5);have cl:Hid (gp (λb=>b≠w0.heap.size) w3 v3 l):=aa (c7.mono λb _ hb=>by have:=V.out.lt;omega);clear c5 c7;go_simp;refine HK.out _ _ (λ_ hS=>⟨⟨a9.out.cells.1,a9.out.cells.2.1,a9.out.cells.2.2.1⟩,a9.out.cells.2.2.2.1⟩) ?_;clear HK K;try simp only[Act.put,sx]
  refine af 10 v3 ?_;try simp only[Act.put,sx]
  refine ce ?_;obtain⟨lA,dy,rfl,fv⟩:=br.slice cl.out;have f1:=d5.out;clear V b5 a1 d5;go_wp2_with fail;go_loopw [6] (λi wr=>∃(q:Nat)(U:Nat->Bool),q<=l.length/\i=ι (q:Int)/\Hid (DAt w0 vr (.slice (some (δ b o)) C.ab.length ak) vt vh C.ab.length U wr)/\Hid (w.grownBy wr (some w0.heap.size))/\Hid (gp (λb=>b≠w0.heap.size) wr (.slice lA l.length dy) l)/\Hid (RR=l.foldl (ld C.ab (g6 C.ab) de (dB C.ab H f) P) ((l.drop q).foldl (dB C.ab H f) U))) (λi _=>l.length-(intOf i).toNat)
  case atStart=>exact ⟨0,A,ar _,rfl,a9,d4,cl,eb⟩
  case round =>
   clear a9 d4 cl eb;obtain⟨q,U,hq,rfl,E,HG,HL,I⟩:=hrel;obtain⟨z,rfl⟩:∃z:ω,z=wr:=⟨_,rfl⟩;by_cases ad:q<l.length
   . obtain⟨mb,mo,b3,e7,b4,db⟩:=(let ⟨_,_,h1,_,F⟩:=HL.out;by injection h1 with e1 e2 e3;subst e1;exact F q _ (ae ad):∃b o,lA=some (δ b o)/\b<z.heap.size/\(d7 z b (o+q*1) l[q])/\_);subst b3;have d0:z.cell? (δ mb (mo+q))=some (ι l[q]):=(by have:=b4;unfold d7 at this;rwa [bq]at this);have a2:=I.out;rw[bp ad,cx]at a2;have co:=aa a2;have bt:=aa (d1.out l[q] (bw ad));have d2:Hid (l[q]?=some l[q]):=aa (ae ad);generalize l[q]=x at *;clear b4 db a2 I;go_wp2_with fail;refine(HF.out x U _ bt.out.1 bt.out.2.1 E.out).mono ?_;rintro e w6⟨rfl,O,av⟩;have al:=aa av;have bs:=aa (HG.out.trans O);have ba:=aa (HL.out.grown O λb _ hb h=>hb (by injection h));clear O av;go_wp2;go_roundw
     case rel=>exact ⟨q+1,_,by omega,by go_num,al,bs,ba,co⟩
     case measure=>simp[intOf];omega
   . obtain rfl:q=l.length:=(by omega);have d:=I.out;rw[bz,dv]at d;have Y:=aa d;clear d;go_wp2_with fail;go_loopw [7] (λi wr=>∃(q:Nat)(U:Nat->Bool),q<=l.length/\i=ι (q:Int)/\Hid (DAt w0 vr (.slice (some (δ b o)) C.ab.length ak) vt vh C.ab.length U wr)/\Hid (w.grownBy wr (some w0.heap.size))/\Hid (gp (λb=>b≠w0.heap.size) wr (.slice lA l.length dy) l)/\Hid (RR=(l.drop q).foldl (ld C.ab (g6 C.ab) de (dB C.ab H f) P) U)) (λi _=>l.length-(intOf i).toNat)
     case atStart=>exact ⟨0,U,ar _,rfl,E,HG,HL,Y⟩
     case round =>
      clear E HG HL Y ad hq;obtain⟨q,U,hq,rfl,E,HG,HL,I⟩:=hrel;obtain⟨z,rfl⟩:∃z:ω,z=wr:=⟨_,rfl⟩;by_cases ad:q<l.length
      . obtain⟨mb,mo,b3,e7,b4,db⟩:=(let ⟨_,_,h1,_,F⟩:=HL.out;by injection h1 with e1 e2 e3;subst e1;exact F q _ (ae ad):∃b o,lA=some (δ b o)/\b<z.heap.size/\(d7 z b (o+q*1) l[q])/\_);subst b3;have d0:z.cell? (δ mb (mo+q))=some (ι l[q]):=(by have:=b4;unfold d7 at this;rwa [bq]at this);have a2:=I.out;rw[bp ad,cx]at a2;have co:=aa a2;have bt:=aa (d1.out l[q] (bw ad));have d2:Hid (l[q]?=some l[q]):=aa (ae ad);generalize l[q]=x at *;clear b4 db a2 I;have V:=aa E.out.drew;have b5:=aa (mw HG.out);have e4:=aa (HL.out.below (ag _ z).drew);have a1:Hid (z.drew.cell? (δ (w0.heap.size+1) 1)=some (.slice (some (δ b o)) C.ab.length ak)/\z.drew.cell? (δ mb (mo+q))=some (ι x)/\z.drew.cell? (δ b (o+k*5+1))=some (ι P)):=aa ⟨E.out.cells.2.1,d0,(am.out.below E.out.below b0).2.1⟩;have HX:Hid (c6 C.ab x=true/\ama C.ab f P x):=aa ⟨bt.out.1,bt.out.2.2⟩;clear d0 E HG HL;go_wp2_with fail;refine cr (λW=>W.cell? (δ (w0.heap.size+1) 1)=some (.slice (some (δ b o)) C.ab.length ak)/\W.cell? (δ mb (mo+q))=some (ι x)/\W.cell? (δ b (o+k*5+1))=some (ι P)) [] ?_;refine af 0 (φ (w0.heap.size+1) 0) ?_;refine af 1 (.slice (some (δ mb mo)) l.length dy) ?_;refine af 2 (ι (q:Int)) ?_;refine af 3 (φ mb (mo+q)) ?_;refine a7 4 (ι x) (a1.out) ?_;refine af 5 (φ (w0.heap.size+1) 0) ?_;refine af 6 (φ (w0.heap.size+1) 0) ?_;refine af 7 (φ (w0.heap.size+1) 0) ?_;refine af 8 (φ (w0.heap.size+1) 1) ?_;refine a7 9 (.slice (some (δ b o)) C.ab.length ak) (a1.out) ?_;refine af 10 (ι (k:Int)) ?_;refine af 11 (φ b (o+k*5)) ?_;refine af 12 (φ b (o+k*5+1)) ?_;refine a7 13 (ι P) (a1.out) ?_;try simp only[Act.put,sx]
        refine a8 14 (λK HK=>?_);go_simp;refine(afi HN.out HF.out x P U _ HX.out.1 V.out HX.out.2).mono ?_;rintro e w6⟨rfl,O,av⟩;have al:=aa av;have bs:=aa (b5.out.trans O);have ba:=aa (e4.out.grown O λb _ hb h=>hb (by injection h));clear O av;go_simp;refine HK.out _ _ (λ_ hS=>⟨al.out.cells.2.1,zk ba.out d2.out,(am.out.below al.out.below b0).2.1⟩) ?_;clear HK K;try simp only[Act.put,sx]
        refine ce ?_;go_wp2;go_roundw
        case rel=>exact ⟨q+1,_,by omega,by go_num,al,bs,ba,co⟩
        case measure=>simp[intOf];omega
      . obtain rfl:q=l.length:=(by omega);have d:=I.out;rw[bz,dv]at d;have Y:=aa d;clear d;go_wp2;go_end0;exact⟨rfl,HG.out,by rw[Y.out];exact E.out⟩
 | false =>
  rw[Z]at bb;rw[ah (by rw[Z];simp)]at d;have I:=aa d;have b7:Hid ((aq C.ab (k:Int)).kind=3->∀x∈lj C.ab (k:Int),c6 C.ab x=true/\rk C.ab x<f):=aa (λF x hx=>⟨(zo ax hs Z x hx).1,by have:=(zo ax hs Z x hx).2.1;omega⟩);have b6:Hid ((aq C.ab (k:Int)).kind=2->∃t,(aq C.ab (k:Int)).ip=[t]/\c6 C.ab t=true/\rk C.ab t<f/\ama C.ab f (k:Int) t):=aa (λJ=>by obtain ⟨t,h1,_⟩:=ax.bcb _ hs J;obtain⟨q1,q2,q3⟩:=acq ax hs J t (by rw[h1];simp);exact⟨t,h1,q1,by omega,λp hp=>⟨(q3 p hp).1,(q3 p hp).2.1,λy hy=>⟨((q3 p hp).2.2 y hy).1,by have:=((q3 p hp).2.2 y hy).2;omega⟩⟩⟩);have b8:=aa ca.1;obtain⟨iA,e8,eA,e9,xA,f2,rfl,rfl,rfl⟩:=ca.slices;have d3:Hid (∀W,κ w W->DAt w0 vr (.slice (some (δ b o)) C.ab.length ak) vt vh C.ab.length A W):=aa (λW hb=>E.out.kept hb);clear hN hF hE hs hr ds ca d Z ax;go_enter func109,ntmps109;go_wp2_with fail;refine bb.out.mono ?_;rintro e Q⟨rfl,a4⟩;have a0:=aa (d3.out Q a4);have bk:Hid (w.grownBy Q (some w0.heap.size)):=aa (gc a4 _);clear a4 c0 c1 c2 c3 c4 bb E d3;obtain⟨c0,c1,c2,c3,c4⟩:=a0.out.cells;obtain⟨fg,fu⟩:=a0.out.bit k hk;have a5:Hid (DAt w0 vr (.slice (some (δ b o)) C.ab.length ak) vt vh C.ab.length (de A (k:Int)) (Q.setCell (δ w0.heap.size k) (.bool true))):=aa (a0.out.put k hk);have cb:Hid (w.grownBy (Q.setCell (δ w0.heap.size k) (.bool true)) (some w0.heap.size)):=aa (afc bk.out k _);obtain⟨p0,p1,p2,p3,p4⟩:=a5.out.cells;obtain⟨q0,q1,q2,q3,q4⟩:=am.out.below a5.out.below b0;clear a0 bk;generalize b9:(aq C.ab (k:Int)).kind=KD at *;generalize cv:(aq C.ab (k:Int)).ip=IN at *;generalize (aq C.ab (k:Int)).kv.length=el at *;generalize (aq C.ab (k:Int)).me.length=xl at *;generalize fa:Q.setCell (δ w0.heap.size k) (.bool true)=W2 at *;by_cases J:KD=2
  . have d:=I.out;rw[ao J]at d;obtain⟨t,rfl,ek,er,ev⟩:=b6.out J;have ci:Hid (gp (λb=>b≠w0.heap.size) W2 (.slice iA 1 e8) [t]):=aa (ajn b8.out a5.out.below);obtain⟨mb,mo,b3,_⟩:=(let ⟨_,_,h1,_,F⟩:=ci.out;by injection h1 with e1 e2 e3;subst e1;exact F 0 t rfl:∃b o,iA=some (δ b o)/\b<W2.heap.size/\(d7 W2 b (o+0*1) t)/\_);subst b3;have d0:W2.cell? (δ mb mo)=some (ι t):=zk (k:=0) ci.out rfl;have e6:(KD==2)=true:=(by simpa using J);have eg:(KD==3)=false:=(by rw[J];rfl);have HT:=aa (⟨ek,er,ev⟩:c6 C.ab t=true/\rk C.ab t<f/\ama C.ab f (k:Int) t);have Y:Hid (RR=ld C.ab (g6 C.ab) de (dB C.ab H f) (k:Int) (dB C.ab H f (de A (k:Int)) t) t):=aa d;have e0:=aa b9;clear d J ek er ev b6 b7 cv b8 I b9;go_wp2_with fail;refine(HF.out t _ _ HT.out.1 HT.out.2.1 a5.out).mono ?_;rintro e w6⟨rfl,O,av⟩;have al:=aa av;have bs:=aa (cb.out.trans O);have ba:=aa (ci.out.grown O λb _ hb h=>hb (by injection h));have d6:w6.cell? (δ mb mo)=some (ι t):=zk (k:=0) ba.out rfl;obtain⟨s0,s1,s2,s3,s4⟩:=al.out.cells;obtain⟨r0,r1,r2,r3,r4⟩:=am.out.below al.out.below b0;clear O av p0 p1 p2 p3 p4 q0 q1 q2 q3 q4 d0;go_wp2_with fail;refine(afi HN.out HF.out t (k:Int) _ _ HT.out.1 al.out HT.out.2.2).mono ?_;rintro e w7⟨rfl,b2,b1⟩;have bf:=aa b1;have cc:=aa (bs.out.trans b2);obtain⟨t0,t1,t2,t3,t4⟩:=bf.out.cells;obtain⟨v0,v1,v2,v3,v4⟩:=am.out.below bf.out.below b0;rw[e0.out]at v0;clear b2 b1 s0 s1 s2 s3 s4 r0 r1 r2 r3 r4 d6;go_wp2;go_end0;exact⟨rfl,cc.out,by rw[Y.out];exact bf.out⟩
  . have d:=I.out;rw[ah J]at d;have e6:(KD==2)=false:=(by simpa using J);by_cases F:KD=3
    . rw[ao F]at d;have eg:(KD==3)=true:=(by simpa using F);have Y:=aa d;have ex:=aa (b7.out F);clear d J F b6 b7 cv b8 I b9;go_wp2_with fail;refine(aih HN.out HF.out (k:Int) _ _ a5.out ex.out).mono ?_;rintro e w7⟨rfl,b2,b1⟩;have bf:=aa b1;have cc:=aa (cb.out.trans b2);clear b2 b1;go_wp2;go_end0;exact⟨rfl,cc.out,by rw[Y.out];exact bf.out⟩
    . rw[ah F]at d;have eg:(KD==3)=false:=(by simpa using F);have Y:=aa d;clear d J F b6 b7 cv b8 I b9;go_wp2;go_end0;exact⟨rfl,cb.out,by rw[Y.out];exact a5.out⟩
theorem app{w0:ω}{vr:Int}{vs vt vh:Value}{C:Ch}{H:List Nat}(d:a6p w0 vr vs vt vh C H):∀f,amc w0 vr vs vt vh C H f
 | 0=>λ_ _ _ _ h _=>by omega
 | f+1=>a0s d (app d f)
theorem Tryz.a1f:(Tryz.prog.info? 4).map (λi=>(i.zero,i.size,i.bytes))=some (some (.bool false),1,1):=by kernel_rfl
theorem bcp(n m:Nat):n / 2^m=n / 2^(m+1)*2+n / 2^m%2:=by rw[Nat.pow_succ,<-Nat.div_div_eq_div_mul];omega
theorem a5t{O:ω}{vr:Int}{vs vt vh:Value}{n:Nat}{A:Nat->Bool}(w:ω)(U:DAt O vr vs vt vh n A w)(hn:n<=31) :
 Calls prog 28 #[.slice (some (δ O.heap.size 0)) n n] w λe w'=>e=.returned (.int .u32 ((bset A n:Nat):Int))/\w=w':=by
 have HB:=aa (λk J=>(U.bit k J).1);have ad:=aa (λk(J:k<n)=>vj A n k J);have am:=fy A hn;have Y:Hid (bset A n / 2^n=0):=aa (l6 (qj A n));have Z:Hid (bset A n / 2^0=bset A n):=aa (by simp);generalize bset A n=N at *;clear U;go_enter func28,ntmps28;go_wp2_with fail;go_loopw [3,4] (λv i wr=>∃m:Nat,m<=n/\i=ι ((m:Int)-1)/\v=.int .u32 ((N / 2^m:Nat):Int)/\wr=w) (λ_ i _=>(intOf i+1).toNat)
 case atStart=>exact ⟨n,ai _,by go_num,by rw[Y.out];rfl,rfl⟩
 case round =>
  obtain⟨m,hm,rfl,rfl,rfl⟩:=hrel;by_cases h0:m=0
  . subst h0;go_wp2;go_ret;exact⟨cw (by rw[Z.out]),rfl⟩
  . obtain⟨j,rfl⟩:∃j,m=j+1:=⟨m-1,by omega⟩;have e1:((j+1:Nat):Int)-1=(j:Int):=(by omega);rw[e1];have ak:decide (0<=(j:Int))=true:=(by simp);have Q:wr.cell? (δ O.heap.size j)=some (.bool (A j)):=HB.out j (by omega);have d:=ad.out j (by omega);have V:=bcp N j;have al:N / 2^j<=N:=Nat.div_le_self _ _;generalize W:N / 2^(j+1)=q at *;generalize E:N / 2^j=p at *;have hw:IntKind.u32.wrap ((q:Int)*2)=(q:Int)*2:=o4 _ (by omega) (by have:(2:Int)^32=4294967296:=rfl;omega);cases z:A j with
    | true =>
     rw[z]at Q d;have y:p=q*2+1:=(by rw[ao rfl]at d;omega);have av:IntKind.u32.wrap ((q:Int)*2+1)=(q:Int)*2+1:=o4 _ (by omega) (by have:(2:Int)^32=4294967296:=rfl;omega);have F:=aa E;have I:=aa y;clear W E V d z y;go_wp2;go_roundw
     case rel=>exact ⟨j,by omega,by go_num,by rw[F.out,I.out];go_num,trivial⟩
     case measure=>simp[intOf]
    | false =>
     rw[z]at Q d;have y:p=q*2:=(by rw[ah (by simp)]at d;omega);have F:=aa E;have I:=aa y;clear W E V d z y;go_wp2;go_roundw
     case rel=>exact ⟨j,by omega,by go_num,by rw[F.out,I.out];go_num,trivial⟩
     case measure=>simp[intOf]
theorem a35{d w:ω}{v:Value}{L:List Int}(h:dd d v L)(y:κ d w):gp (λb=>b≠d.heap.size) w v L:=ajn h y
theorem agb{S:List St}:∀(M acc:List Int),(∀x∈M,c6 S x=true)->(∀x∈acc,c6 S x=true)->∀x∈M.foldl ka acc,c6 S x=true
 | [],acc,_,h,x,E=>h x E
 | y::M,acc,F,h,x,E=>agb M (ka acc y) (λz d=>F z (fo _ d)) (λz d=>by
  rcases akr.1 d with d | d
  . exact h z d
  . rw[d];exact F y (ig ..)) x E
theorem aux{S:List St}(y:l1 S)(H:List Nat)(l:List Int):∀x∈uu S H l,c6 S x=true:=by
 have:∀(l d:List Int),(∀x∈d,c6 S x=true)->∀x∈l.foldl (λd s=>(za S H s).foldl ka d) d,c6 S x=true:=by
  intro l
  induction l with
  | nil=>intro d h;exact h
  | cons s l E=>intro d h;exact E _ (agb _ _ (acw y H s).2 h)
 exact this l [] (λx z=>by cases z)
theorem akp(d a:Int)(vs vt vh vl:Value)(C:Ch)(H:List Nat)(l:List Int)(w:ω)(hC:d8 w vs vt C)(hH:km w vh H)(hv:dd w vl l)(ak:l1 C.ab)(hG:∀s,s<H.length->zy C.ab H s)(cv:H.length<=1000)(eg:l.length<=1000) :
 Calls prog 56 #[.agg #[ι d,vs,vt],vh,ι a,vl] w λe w'=>e=.returned (.int .u32 ((bset (agx C.ab H a l) C.ab.length:Nat):Int))/\κ w w':=by
 have e0:=ak.len;obtain⟨i1,c7,d1,ds,dy⟩:=info_parts Tryz.a1f;have d3:Hid (∀W:ω,(Instr.makeSlice 47 (ι (C.ab.length:Int)) (ι (C.ab.length:Int))).run prog W=.ok (.slice (some (δ W.heap.size 0)) C.ab.length C.ab.length) (W.alloc (.cells (madeCells #[.bool false] C.ab.length) 4))):=aa (λW=>by have:=run_make (P:=prog) W 47 4 i1 (.bool false) underlying47 c7 d1 .i64 .i64 (C.ab.length:Int) (C.ab.length:Int) (by omega) (by omega) (by rw[dy];omega) (by omega);rw[ds]at this;simpa [Value.cells] using this);obtain⟨g1,g2⟩:=ac7 ak hG;have cc:=aa (λ(W:ω)(Q:κ w W)=>(⟨hC.below Q,hH.below Q,ak,cv,g1,g2,λs=>by have:=(acw ak H s).1;omega⟩:a6p W d vs vt vh C H));have d4:=aa (λ(W:ω)(Q:κ w W)=>azd d vs vt vh vl C H l W (hC.below Q) (hH.below Q) (hv.below Q) ak cv eg);have d2:=aa hv;have eb:=aa (aux ak H l);have e5:(uu C.ab H l).length<=31000:=by have:=arh ak H l;omega
 obtain⟨M,hM⟩:∃M,M=l.foldl (dB C.ab H (C.ab.length+2)) (λ_=>false):=⟨_,rfl⟩;obtain⟨D,hD⟩:∃D,D=(uu C.ab H l).foldl (ld C.ab (g6 C.ab) de (dB C.ab H (C.ab.length+2)) a) M:=⟨_,rfl⟩;have d5:Hid (agx C.ab H a l=D):=aa (by rw[hD,hM];rfl);have HM:=aa hM;have HD:=aa hD;obtain⟨E,F,rfl,e6⟩:=br.slice hC.1;obtain⟨lA,b2,rfl,ex⟩:=br.slice hv;obtain⟨hA,ax,rfl,ev⟩:=br.slice hH;generalize uu C.ab H l=I at *;clear hC hH hv ak hG hM hD g1 g2 c7 d1 ds dy;go_enter func56,ntmps56;go_wp2_with fail;refine cr (λW=>W.cell? (δ w.heap.size 0)=some (ι d)/\W.cell? (δ w.heap.size 1)=some (.slice E C.ab.length F)/\W.cell? (δ w.heap.size 2)=some vt) [] ?_;have ad:Hid (cg (w.alloc (bu d (.slice E C.ab.length F) vt)).drew w.heap.size 25 #[ι d,(.slice E C.ab.length F),vt]):=aa (cg.new w 25 _);have b1:Hid ((w.alloc (bu d (.slice E C.ab.length F) vt)).drew.cell? (δ w.heap.size 0)=some (ι d)/\(w.alloc (bu d (.slice E C.ab.length F) vt)).drew.cell? (δ w.heap.size 1)=some (.slice E C.ab.length F)/\(w.alloc (bu d (.slice E C.ab.length F) vt)).drew.cell? (δ w.heap.size 2)=some vt):=aa ad.out.ax.1;obtain⟨y,ca⟩:∃y,y=(w.alloc (bu d (.slice E C.ab.length F) vt)).drew:=⟨_,rfl⟩;rw[<-ca]at ad b1 ⊢;have b7:=aa ca;clear ca;refine a7 0 (.agg #[ι d,.slice E C.ab.length F,vt]) (b1.out) ?_;refine af 1 (.slice hA H.length ax) ?_;refine af 2 (φ w.heap.size 1) ?_;refine a7 3 (.slice E C.ab.length F) (b1.out) ?_;refine af 4 (ι (C.ab.length:Int)) ?_;try simp only[Act.put,sx]
 refine a8 5 (λK O=>?_);have el:=d3.out y;go_simp;refine O.out _ _ (λ_ hS=>(ad.out.alloc _).ax.1) ?_;clear O K el;try simp only[Act.put,sx]
 refine af 6 (.agg #[ι d,.slice E C.ab.length F,vt,.slice hA H.length ax,.slice (some (δ y.heap.size 0)) C.ab.length C.ab.length]) ?_;try simp only[Act.put,sx]
 refine a8 7 (λK O=>?_);go_simp;refine O.out _ _ (λ_ hS=>((ad.out.alloc _).alloc _).ax.1) ?_;clear O K;try simp only[Act.put,sx]
 refine af 8 (φ (y.heap.size+1) 0) ?_;try simp only[Act.put,sx]
 refine ce ?_;have a1:Hid (κ w y):=aa (by rw[b7.out];exact (ap w _).drew);have HN:=aa (cc.out y a1.out);have a3:Hid (w.heap.size<y.heap.size):=aa (by rw[b7.out];show _<(w.alloc _).heap.size;simp);have cb:Hid (DAt y d (.slice E C.ab.length F) vt (.slice hA H.length ax) C.ab.length (λ_=>false) ((y.alloc (.cells (madeCells #[.bool false] C.ab.length) 4)).alloc (.cells #[ι d,(.slice E C.ab.length F),vt,.slice hA H.length ax,.slice (some (δ y.heap.size 0)) C.ab.length C.ab.length] 153))):=aa (by refine ⟨(ap y _).trans ((ap _ _).mono (by simp)),cg.dy (y.alloc _) 153 _ _ (by simp),_,(cg.new y 4 _).alloc _,by simp[madeCells],λi hi=>?_⟩;simp[madeCells,hi,Nat.mod_one]);have ci:Hid (gp (λb=>b≠y.heap.size) ((y.alloc (.cells (madeCells #[.bool false] C.ab.length) 4)).alloc (.cells #[ι d,(.slice E C.ab.length F),vt,.slice hA H.length ax,.slice (some (δ y.heap.size 0)) C.ab.length C.ab.length] 153)) (.slice lA l.length b2) l):=aa (a35 (d2.out.below a1.out) ((ap y _).trans ((ap _ _).mono (by simp))));clear b7 b1 cc;go_wp2_with fail;go_loopw [10] (λi wr=>∃(k:Nat)(Y:Nat->Bool),k<=l.length/\i=ι (k:Int)/\Hid (DAt y d (.slice E C.ab.length F) vt (.slice hA H.length ax) C.ab.length Y wr)/\Hid (gp (λb=>b≠y.heap.size) wr (.slice lA l.length b2) l)/\Hid (M=(l.drop k).foldl (dB C.ab H (C.ab.length+2)) Y)) (λi _=>l.length-(intOf i).toNat)
 case atStart=>exact ⟨0,_,ar _,rfl,cb,ci,HM⟩
 case round =>
  clear cb ci HM;obtain⟨k,Y,hk,rfl,J,HL,HR⟩:=hrel;obtain⟨z,rfl⟩:∃z:ω,z=wr:=⟨_,rfl⟩;by_cases Z:k<l.length
  . obtain⟨U,V,b8,ek,bt,b9⟩:=(let ⟨_,_,h1,_,h3⟩:=HL.out;by injection h1 with e1 e2 e3;subst e1;exact h3 k _ (ae Z):∃b o,lA=some (δ b o)/\b<z.heap.size/\(d7 z b (o+k*1) l[k])/\_);subst b8;have d0:z.cell? (δ U (V+k))=some (ι l[k]):=(by have:=bt;unfold d7 at this;rwa [bq]at this);have am:=HR.out;rw[bp Z,cx]at am;have ba:=aa am;have a0:Hid (l[k]?=some l[k]):=aa (ae Z);have cl:Hid (l[k]∈l):=aa (bw Z);generalize l[k]=x at *;clear bt b9 am HR;cases bs:c6 C.ab x with
    | false =>
     have a5:=aa bs;rw[ax3 _ _ bs]at ba;clear bs;go_wp2_with fail;clear d0;refine cr (λW=>(W.cell? (δ w.heap.size 0)=some (ι d)/\W.cell? (δ w.heap.size 1)=some (.slice E C.ab.length F)/\W.cell? (δ w.heap.size 2)=some vt)/\W.cell? (δ U (V+k))=some (ι x)) [] ?_;have al:=aa J.out.drew;have a9:=aa (HL.out.below (ag _ z).drew);have bb:Hid ((z.drew.cell? (δ w.heap.size 0)=some (ι d)/\z.drew.cell? (δ w.heap.size 1)=some (.slice E C.ab.length F)/\z.drew.cell? (δ w.heap.size 2)=some vt)/\z.drew.cell? (δ U (V+k))=some (ι x)):=aa ⟨(ad.out.below al.out.below a3.out).ax.1,zk a9.out a0.out⟩;refine a7 0 (.agg #[ι d,.slice E C.ab.length F,vt]) (bb.out) ?_;refine af 1 (.slice (some (δ U V)) l.length b2) ?_;refine af 2 (ι (k:Int)) ?_;refine af 3 (φ U (V+k)) ?_;refine a7 4 (ι x) (bb.out) ?_;try simp only[Act.put,sx]
     refine a8 5 (λK O=>?_);go_simp;refine(qt d x _ vt C _ (HN.out.has.below al.out.below) (by have:=HN.out.oz.len;omega)).mono ?_;rintro e w6⟨rfl,av⟩;have a4:=aa (al.out.kept av);have a2:=aa (a9.out.below av);rw[a5.out];clear av;go_simp;refine O.out _ _ (λ_ hS=>⟨(ad.out.below a4.out.below a3.out).ax.1,zk a2.out a0.out⟩) ?_;clear O K;try simp only[Act.put,sx]
     refine ce ?_;go_wp2;go_roundw
     case rel=>exact ⟨k+1,Y,by omega,by go_num,a4,a2,ba⟩
     case measure=>simp[intOf];omega
    | true =>
     have a5:=aa bs;clear bs;go_wp2_with fail;clear d0;refine cr (λW=>(W.cell? (δ w.heap.size 0)=some (ι d)/\W.cell? (δ w.heap.size 1)=some (.slice E C.ab.length F)/\W.cell? (δ w.heap.size 2)=some vt)/\W.cell? (δ U (V+k))=some (ι x)) [] ?_;have al:=aa J.out.drew;have a9:=aa (HL.out.below (ag _ z).drew);have bb:Hid ((z.drew.cell? (δ w.heap.size 0)=some (ι d)/\z.drew.cell? (δ w.heap.size 1)=some (.slice E C.ab.length F)/\z.drew.cell? (δ w.heap.size 2)=some vt)/\z.drew.cell? (δ U (V+k))=some (ι x)):=aa ⟨(ad.out.below al.out.below a3.out).ax.1,zk a9.out a0.out⟩;refine a7 0 (.agg #[ι d,.slice E C.ab.length F,vt]) (bb.out) ?_;refine af 1 (.slice (some (δ U V)) l.length b2) ?_;refine af 2 (ι (k:Int)) ?_;refine af 3 (φ U (V+k)) ?_;refine a7 4 (ι x) (bb.out) ?_;try simp only[Act.put,sx]
     refine a8 5 (λK O=>?_);go_simp;refine(qt d x _ vt C _ (HN.out.has.below al.out.below) (by have:=HN.out.oz.len;omega)).mono ?_;rintro e w6⟨rfl,av⟩;have a4:=aa (al.out.kept av);have a2:=aa (a9.out.below av);rw[a5.out];clear av;go_simp;refine O.out _ _ (λ_ hS=>⟨(ad.out.below a4.out.below a3.out).ax.1,zk a2.out a0.out⟩) ?_;clear O K;try simp only[Act.put,sx]
     refine ce ?_;have d6:=zk a2.out a0.out;go_wp2_with fail;refine((app HN.out (C.ab.length+2)) x Y _ a5.out (aop a5.out) a4.out).mono ?_;rintro e w7⟨rfl,bk,bf⟩;have b4:=aa bf;have b6:=aa (a2.out.grown bk λb _ Q h=>Q (by injection h));clear bk bf d6;go_wp2;go_roundw
     case rel=>exact ⟨k+1,_,by omega,by go_num,b4,b6,ba⟩
     case measure=>simp[intOf];omega
  . obtain rfl:k=l.length:=(by omega);have hR:=HR.out;rw[bz,dv]at hR;have b0:=aa hR;clear hR;have co:=aa (d4.out z (a1.out.trans (J.out.below.mono a1.out.size)));obtain⟨z0,z1,z2⟩:=(ad.out.below J.out.below a3.out).ax.1;go_wp2_with fail;refine co.out.mono ?_;rintro e w3⟨c5,v3,rfl,db⟩;have b3:=aa (J.out.kept c5);rw[<-b0.out]at b3;have b5:Hid (gp (λb=>b≠y.heap.size) w3 v3 I):=aa (gp.fg db λb Q=>by have:=J.out.lt;omega);obtain⟨rA,er,rfl,e4⟩:=br.slice b5.out;clear c5 db J b0 co z0 z1 z2;go_wp2_with fail;go_loopw [12] (λi wr=>∃(k:Nat)(Y:Nat->Bool),k<=I.length/\i=ι (k:Int)/\Hid (DAt y d (.slice E C.ab.length F) vt (.slice hA H.length ax) C.ab.length Y wr)/\Hid (gp (λb=>b≠y.heap.size) wr (.slice rA I.length er) I)/\Hid (D=(I.drop k).foldl (ld C.ab (g6 C.ab) de (dB C.ab H (C.ab.length+2)) a) Y)) (λi _=>I.length-(intOf i).toNat)
    case atStart=>exact ⟨0,M,ar _,rfl,b3,b5,HD⟩
    case round =>
     clear b3 b5 HD HL Z hk;obtain⟨k,Y,hk,rfl,J,HL,HR⟩:=hrel;obtain⟨z,rfl⟩:∃z:ω,z=wr:=⟨_,rfl⟩;by_cases Z:k<I.length
     . obtain⟨U,V,b8,ek,bt,b9⟩:=(let ⟨_,_,h1,_,h3⟩:=HL.out;by injection h1 with e1 e2 e3;subst e1;exact h3 k _ (ae Z):∃b o,rA=some (δ b o)/\b<z.heap.size/\(d7 z b (o+k*1) I[k])/\_);subst b8;have d0:z.cell? (δ U (V+k))=some (ι I[k]):=(by have:=bt;unfold d7 at this;rwa [bq]at this);have am:=HR.out;rw[bp Z,cx]at am;have ba:=aa am;have a0:Hid (I[k]?=some I[k]):=aa (ae Z);have cl:Hid (I[k]∈I):=aa (bw Z);generalize I[k]=x at *;clear bt b9 am HR;go_wp2_with fail;refine(afi HN.out (app HN.out (C.ab.length+2)) x a Y _ (eb.out x cl.out) J.out (aj5 HN.out.oz a x _ (by omega))).mono ?_;rintro e w7⟨rfl,bk,bf⟩;have b4:=aa bf;have b6:=aa (HL.out.grown bk λb _ Q h=>Q (by injection h));clear bk bf;go_wp2;go_roundw
       case rel=>exact ⟨k+1,_,by omega,by go_num,b4,b6,ba⟩
       case measure=>simp[intOf];omega
     . obtain rfl:k=I.length:=(by omega);have hR:=HR.out;rw[bz,dv]at hR;have b0:=aa hR;clear hR;obtain⟨c0,c1,c2,c3,c4⟩:=J.out.cells;rw[<-b0.out]at J;go_wp2_with fail;refine(a5t z J.out (by omega)).mono ?_;rintro e w9⟨rfl,rfl⟩;go_wp2;go_ret;exact⟨cw (by rw[d5.out]),a1.out.trans (J.out.below.mono a1.out.size)⟩
def baa(v:Vl)(w:ω)(e:Ending)(d:ω):Prop :=
 κ w d/\match v with
  | .ok k n=>e=.returned (.tuple #[.agg #[ι k,ι n],ι 0,ι (-1)])
  | .bad c=>∃z,e=.returned (.tuple #[.agg #[ι 0,ι 0],ι c,ι z])/\(c != 0)=true
theorem a29{s:ByteArray}{env:List Int}{w E:ω}{e:Ending}(F:∀x∈env,uj x)(h:awn (fi s.data.toList) env w e E):baa (aac s env) w e E:=by
 unfold aac;cases d:fi s.data.toList with
 | toks o =>
  rw[d]at h;obtain⟨z,h⟩:=h;simp only at h;unfold baa sb;simp only;rcases ah2 ⟨false,env,0⟩ o (tq d).2.1 F with ⟨k,n,y,_⟩ | ⟨c,y,I,_⟩
  . rw[y]at h ⊢;exact⟨z,h⟩
  . rw[y]at h ⊢;exact⟨z,_,h,by simp;omega⟩
 | form k =>rw[d]at h;exact⟨h.1,_,h.2,rfl⟩
 | large =>rw[d]at h;exact⟨h.1,_,h.2,rfl⟩
structure RDs (B:Nat) (w:World) (ve vo vi:Value) (X:Ds):Prop where
 env:ez B w ve X.env
 out:iw B w vo X.out
 ins:p9 B w vi X.ins
theorem RDs.below{B:Nat}{w F:ω}{y E z:Value}{X:Ds}(h:RDs B w y E z X)(d:κ w F):RDs B F y E z X:=⟨h.env.below d,h.out.below d,h.ins.below d⟩
theorem RDs.adl{B:Nat}{w d:ω}{z F E v':Value}{X:Ds}{o:Ou}(h:RDs B w z F E X)(y:w.grownBy d F.ownBlock)(I:d.ownsRow B 73 4 v' (X.out.length+1) (X.out.flatMap ft++ft o)):RDs B d z v' E ⟨X.env,X.out ++ [o],X.ins⟩ :=
 ⟨adn h.env h.out (by decide) y,anb I,World.ownsRow.kept h.ins y (zg h.ins h.out (by decide))⟩
theorem RDs.sz{B:Nat}{w d:ω}{z F E v':Value}{X:Ds}{x:Int}(h:RDs B w z F E X)(y:w.grownBy d E.ownBlock)(I:d.ownsRow B 3 1 v' (X.ins.length+1) (bg X.ins ++ [ι x])):RDs B d z F v' ⟨X.env,X.out,X.ins ++ [x]⟩ :=
 ⟨adn h.env h.ins (by decide) y,World.ownsRow.kept h.out y (zg h.out h.ins (by decide)),ash I⟩
theorem RDs.put{B:Nat}{w:ω}{b cap:Nat}{z y:Value}{X:Ds}{k:Nat}{n:Int}{E:Array Value}(h:RDs B w (.slice (some (δ b 0)) X.env.length cap) z y X)(d:cg w b 2 E)(F:k<X.env.length) :
 RDs B (w.setCell (δ b k) (ι n)) (.slice (some (δ b 0)) X.env.length cap) z y ⟨X.env.set k n,X.out,X.ins⟩ :=
 ⟨a48 h.env F,du h.out d (by decide) k _,du h.ins d (by decide) k _⟩
theorem an3.ofR{X Y:Ds}{w F:ω}{e:Ending}{y E z:Value}(J:e=.returned (.tuple #[y,E,z]))(d:Y=X)(I:κ w F)(h:RDs w.heap.size F y E z X):an3 Y w e F:=⟨I,y,E,z,J,d▸h.env,d▸h.out,d▸h.ins⟩
theorem ud{a:Ac}{X:Ds}{v:Vl}(d:¬a.kind=2)(y:¬a.kind=4)(z:a.kind=1\/a.kind=3\/a.kind=5)(E:aac a.expr X.env=v):doA a X=doV a X v:=by unfold doA;rw[ah d,ah y,ao z,E]
theorem a72(v d2:Value)(l:List Ac)(env:List Int)(w:ω)(hA:oc w v l)(hl:l.length<=40)(hx:∀a∈l,a.expr.size<=1000000)(hE:fe w d2 env)(b6:env.length<=1000)(bt:∀x∈env,uj x) :
 Calls prog 166 #[v,d2] w (an3 (doL l ⟨env,[],[]⟩) w):=by
 obtain⟨i0,hi,c7,db,ds⟩:=info_parts Tryz.info3;have HI:=aa hi;have ba:=aa c7;have bb:=aa db;have bf:=aa ds;obtain⟨i1,ji,dy,d0,d1⟩:=info_parts Tryz.zz;have JI:=aa ji;have b3:=aa dy;have b4:=aa d0;have b5:=aa d1;obtain⟨i2,KI,el,er,ev⟩:=ιp Tryz.ah7;have eg:=aa hx;have d4:=aa bt;obtain⟨A,e7,rfl,fu,Q⟩:=hA;have HE:=aa Q;obtain⟨XR,hX⟩:∃XR,XR=doL l ⟨env,[],[]⟩:=⟨_,rfl⟩;rw[<-hX];have HX:=aa hX;have HR:=aa (l9 (iq hE));obtain⟨eA,fg,rfl,_⟩:=hE;have ca:=aa (ap w (.cells #[] 2));clear hi c7 db ds ji dy d0 d1 hx bt Q hX;go_enter func166,ntmps166;go_wp2_with (at_builtin;refine afo rfl _ _ 35 rfl w.heap.size 2 i2 (ι 0) 1 8 underlying35 KI.out el.out er.out ev.out rfl (by decide) _ 0 [] rfl (acu w 2 1) _ env.length (bg env) rfl HR.out ca.out ?c3 ?c4 ?c5 ?_)
 case c3=>unfold maxLen;omega
 case c4=>omega
 case c5=>simp
 intro v' w1 cv cl;have b9:=aa (ck ca.out cl (by simp) (λg hg=>by have h:some w.heap.size=some g:=hg;injection h with h;omega));have b2:Hid (ez w.heap.size w1 v' env):=aa (abn (by simpa using cv) rfl);obtain⟨A7,b1,rfl⟩:=b2.out.slice;clear cv cl;go_wp2_with fail;have d5:=aa (λ(ex:ByteArray)(hx:ex.size<=1000000)(W:ω)(E:List Int)(hE:fe W (.slice A7 env.length b1) E)(b6:E.length<=1000)(bt:∀x∈E,uj x)=>(aw3 ex (.slice A7 env.length b1) E W hx hE b6 bt).mono (λe w' h=>a29 bt h));go_loopw [8,9,10] (λv8 v9 i wr=>∃(k:Nat)(X:Ds),k<=l.length/\i=ι (k:Int)/\Hid (κ w wr)/\Hid (RDs w.heap.size wr (.slice A7 env.length b1) v8 v9 X)/\Hid (XR=doL (l.drop k) X)/\Hid (awq env.length k X)) (λ_ _ i _=>l.length-(intOf i).toNat)
 case atStart=>exact ⟨0,⟨env,[],[]⟩,ar _,rfl,b9,aa ⟨b2.out,ajk _ _ _ _,ajk _ _ _ _⟩,HX,aa ⟨rfl,d4.out,ai _,ai _⟩⟩
 case round =>
  clear HX b9 b2;obtain⟨k,X,hk,rfl,HB,HD,HX,HC⟩:=hrel;obtain⟨wo,rfl⟩:∃wo:ω,wo=wr:=⟨_,rfl⟩;by_cases b8:k<l.length
  . obtain⟨b,o,rfl,e6,hc⟩:=HE.out k _ (ae b8);obtain⟨c0,c1,c2,c3⟩:=aqd.keeps w wo b _ _ HB.out e6 hc;have av:Hid (XR=doL (l[k]::l.drop (k+1)) X):=aa (by rw[HX.out,bp b8]);have Z:=aa (HB.out.alloc HB.out.size (fk l[k]));have a5:=aa (HD.out.below (ap wo (fk l[k])));have a1:=aa (cg.new wo 92 #[ι l[k].kind,ι l[k].n,ι l[k].m,.string l[k].expr]);have a2:=aa (d5.out l[k].expr (eg.out _ (bw b8)) _ X.env a5.out.env.nums (by rw[HC.out.env];exact b6) HC.out.fit);have f3:=HC.out.out;have fv:=HC.out.ins;generalize l[k]=a at *;clear hc HX HD;obtain⟨kd,I,am,ex⟩:=a;simp only at c0 c1 c2 c3 a2;by_cases h2:kd=2
    . subst h2;have O:doA ⟨2,I,am,ex⟩ X=some ⟨X.env,X.out,X.ins ++ [I]⟩:=(by simp[doA]);have ak:Hid (XR=doL (l.drop (k+1)) ⟨X.env,X.out,X.ins ++ [I]⟩):=aa (av.out.trans (pf O));have a9:=aa (HC.out.next O);have ad:=aa (a5.out.below (ap _ (.cells #[ι I] 3)));have V:=aa (Z.out.alloc Z.out.size (.cells #[ι I] 3));have ax:=aa (a1.out.alloc (.cells #[ι I] 3));have F:=aa V.out.size;have a0:=aa (vv (wo.alloc (fk ⟨2,I,am,ex⟩)) I (wo.heap.size+1) (by simp));clear av HC a2 O;go_wp2_with (at_builtin;refine wpList_append_own_at _ rfl _ _ 36 rfl w.heap.size 3 i0 (ι 0) 1 8 underlying36 HI.out ba.out bb.out bf.out rfl (by decide) _ _ _ rfl ad.out.ins (δ (wo.heap.size+1) 0) 1 1 [ι I] rfl rfl a0.out (qi _) ?c3 ?c4 ?c5 ?_)
      case c3=>unfold maxLen;omega
      case c4=>omega
      case c5=>first | exact F.out | simpa using F.out
      intro v3 w3 b0 bk _ _;have J:=aa (ad.out.sz (x:=I) bk b0);have Y:=aa (ew (g:=0) V.out ad.out.ins F.out bk);obtain⟨⟨q0,q1,q2,q3⟩,_⟩:=(ec ax.out ad.out.ins (by decide) bk).four;clear b0 bk;go_wp2;go_roundw
      case rel=>exact ⟨k+1,_,by omega,by go_num,Y,J,ak,a9⟩
      case measure=>simp[intOf];omega
    . by_cases h4:kd=4
      . subst h4;clear h2;have O:doA ⟨4,I,am,ex⟩ X=some ⟨X.env,X.out ++ [⟨4,0,0,I⟩],X.ins⟩:=(by simp[doA]);have ak:Hid (XR=doL (l.drop (k+1)) ⟨X.env,X.out ++ [⟨4,0,0,I⟩],X.ins⟩):=aa (av.out.trans (pf O));have a9:=aa (HC.out.next O);have ad:=aa (a5.out.below (ap _ (.cells #[ι 4,ι 0,ι 0,ι I] 73)));have V:=aa (Z.out.alloc Z.out.size (.cells #[ι 4,ι 0,ι 0,ι I] 73));have ax:=aa (a1.out.alloc (.cells #[ι 4,ι 0,ι 0,ι I] 73));have F:=aa V.out.size;have a0:=aa (ahr (wo.alloc (fk ⟨4,I,am,ex⟩)) ⟨4,0,0,I⟩ (wo.heap.size+1) (by simp));clear av HC a2 O;go_wp2_with (at_builtin;refine wpList_append_own_at _ rfl _ _ 39 rfl w.heap.size 73 i1 (.agg #[ι 0,ι 0,ι 0,ι 0]) 4 32 underlying39 JI.out b3.out b4.out b5.out rfl (by decide) _ _ _ rfl ad.out.out (δ (wo.heap.size+1) 0) 1 1 (ft ⟨4,0,0,I⟩) rfl rfl a0.out (ae2 _) ?c3 ?c4 ?c5 ?_)
        case c3=>unfold maxLen;omega
        case c4=>omega
        case c5=>first | exact F.out | simpa using F.out
        intro v3 w3 b0 bk _ _;have J:=aa (ad.out.adl (o:=⟨4,0,0,I⟩) bk b0);have Y:=aa (ew (g:=0) V.out ad.out.out F.out bk);obtain⟨⟨q0,q1,q2,q3⟩,_⟩:=(ec ax.out ad.out.out (by decide) bk).four;clear b0 bk;go_wp2;go_roundw
        case rel=>exact ⟨k+1,_,by omega,by go_num,Y,J,ak,a9⟩
        case measure=>simp[intOf];omega
      . by_cases bs:kd=1\/kd=3\/kd=5
        . clear h2 h4;rcases bs with rfl | rfl | rfl
          . cases hv:aac ex X.env with
            | bad c =>
             rw[hv]at a2;have O:doA ⟨1,I,am,ex⟩ X=none:=(by rw[ud (v:=.bad c) (by simp) (by simp) (by simp) hv];rfl);have ak:Hid (XR=X.vq):=aa (av.out.trans (oh O));clear av O;clear hv;go_wp2_with fail;refine a2.out.mono ?_;rintro e d⟨y,z,Q,co⟩;have Q:e=.returned (.tuple #[.agg #[ι 0,ι 0],ι c,ι z]):=Q;subst Q;have ad:=aa ((a5.out.below y).below (ap d (.cells #[ι 0,ι 0] 239)));have V:=aa ((Z.out.trans (y.mono Z.out.size)).alloc (a6 Z.out.size y.size) (.cells #[ι 0,ι 0] 239));have ax:=aa ((a1.out.below y a1.out.lt).alloc (.cells #[ι 0,ι 0] 239));obtain⟨⟨q0,q1,q2,q3⟩,_⟩:=ax.out.four;obtain⟨⟨y0,y1⟩,_⟩:=(cg.new d 239 #[ι 0,ι 0]).eb;clear y;have J:=aa (ad.out.below (ap _ (.cells #[ι 1001] 3)));have Y:=aa (V.out.alloc V.out.size (.cells #[ι 1001] 3));have F:=aa Y.out.size;have a0:=aa (vv (d.alloc (.cells #[ι 0,ι 0] 239)) 1001 (d.heap.size+1) (by simp));go_wp2_with (at_builtin;refine wpList_append_own_at _ rfl _ _ 36 rfl w.heap.size 3 i0 (ι 0) 1 8 underlying36 HI.out ba.out bb.out bf.out rfl (by decide) _ _ _ rfl J.out.ins (δ (d.heap.size+1) 0) 1 1 [ι 1001] rfl rfl a0.out (qi _) ?c3 ?c4 ?c5 ?_)
             case c3=>unfold maxLen;omega
             case c4=>omega
             case c5=>first | exact F.out | simpa using F.out
             intro v4 w4 al U _ _;have a4:=aa (J.out.sz (x:=1001) U al);have a3:=aa (ew (g:=0) Y.out J.out.ins F.out U);clear al U;go_wp2_with fail;refine bodyPost_ret (jh rfl _ _ _) rfl ?_;exact .ofR rfl ak.out a3.out a4.out
            | ok kk n =>
             rw[hv]at a2;by_cases h1:kk=1
             . subst h1;by_cases hr:0<=I/\I<(X.env.length:Int)
               . have O:doA ⟨1,I,am,ex⟩ X=some ⟨X.env.set I.toNat n,X.out,X.ins⟩:=(by rw[ud (v:=.ok 1 n) (by simp) (by simp) (by simp) hv];simp[doV,doK,hr]);have ak:Hid (XR=doL (l.drop (k+1)) ⟨X.env.set I.toNat n,X.out,X.ins⟩):=aa (av.out.trans (pf O));have a9:=aa (HC.out.next O);have ci:=HC.out.env;obtain⟨j,rfl⟩:∃j:Nat,I=(j:Int):=⟨I.toNat,by omega⟩;have hj:j<X.env.length:=(by omega);clear av HC O hr hv;go_wp2_with fail;refine a2.out.mono ?_;rintro e d⟨y,Q⟩;have Q:e=.returned (.tuple #[.agg #[ι 1,ι n],ι 0,ι (-1)]):=Q;subst Q;have ad:=aa ((a5.out.below y).below (ap d (.cells #[ι 1,ι n] 239)));have V:=aa ((Z.out.trans (y.mono Z.out.size)).alloc (a6 Z.out.size y.size) (.cells #[ι 1,ι n] 239));have ax:=aa ((a1.out.below y a1.out.lt).alloc (.cells #[ι 1,ι n] 239));obtain⟨⟨q0,q1,q2,q3⟩,_⟩:=ax.out.four;obtain⟨⟨y0,y1⟩,_⟩:=(cg.new d 239 #[ι 1,ι n]).eb;clear y;obtain⟨b7,e8,fa,h7,_,cb,cc,e9,fn⟩:=ad.out.env.place hj;have e0:=h7;injection e0 with e1 e2 e3;subst e1;have n1:((j:Int)<0)=False:=(by simp);have n2:¬(env.length:Int)<=(j:Int):=(by omega);have f0:(0:Int)<=(j:Int):=(by omega);have f1:(j:Int)<(env.length:Int):=(by omega);have Y:=aa (V.out.setCell (p:=(δ b7 j)) cb (ι n));have J:Hid (RDs w.heap.size ((d.alloc (.cells #[ι 1,ι n] 239)).setCell (δ b7 j) (ι n)) (.slice (some (δ b7 0)) env.length b1) u8 u9 ⟨X.env.set j n,X.out,X.ins⟩):=aa (by have h:=ad.out;rw[h7]at h ⊢;exact h.put cc hj);have eb:Hid (XR=doL (l.drop (k+1)) ⟨X.env.set j n,X.out,X.ins⟩):=aa (by rw[ak.out];simp);have d3:Hid (awq env.length (k+1) ⟨X.env.set j n,X.out,X.ins⟩):=aa (by have h:=a9.out;simpa using h);generalize X.env[j]=f4 at *;clear ak a9 h7 cc cb e2 e3 ci;go_wp2;go_roundw
                 case rel=>exact ⟨k+1,_,by omega,by go_num,Y,J,eb,d3⟩
                 case measure=>simp[intOf];omega
               . have O:doA ⟨1,I,am,ex⟩ X=none:=(by rw[ud (v:=.ok 1 n) (by simp) (by simp) (by simp) hv];simp[doV,doK,hr]);have ak:Hid (XR=X.vq):=aa (av.out.trans (oh O));clear av O;have ci:=HC.out.env;clear hv HC;go_wp2_with fail;refine a2.out.mono ?_;rintro e d⟨y,Q⟩;have Q:e=.returned (.tuple #[.agg #[ι 1,ι n],ι 0,ι (-1)]):=Q;subst Q;have ad:=aa ((a5.out.below y).below (ap d (.cells #[ι 1,ι n] 239)));have V:=aa ((Z.out.trans (y.mono Z.out.size)).alloc (a6 Z.out.size y.size) (.cells #[ι 1,ι n] 239));have ax:=aa ((a1.out.below y a1.out.lt).alloc (.cells #[ι 1,ι n] 239));obtain⟨⟨q0,q1,q2,q3⟩,_⟩:=ax.out.four;obtain⟨⟨y0,y1⟩,_⟩:=(cg.new d 239 #[ι 1,ι n]).eb;clear y;by_cases hn:I<0
                 . clear hr;have J:=aa (ad.out.below (ap _ (.cells #[ι 1001] 3)));have Y:=aa (V.out.alloc V.out.size (.cells #[ι 1001] 3));have F:=aa Y.out.size;have a0:=aa (vv (d.alloc (.cells #[ι 1,ι n] 239)) 1001 (d.heap.size+1) (by simp));go_wp2_with (at_builtin;refine wpList_append_own_at _ rfl _ _ 36 rfl w.heap.size 3 i0 (ι 0) 1 8 underlying36 HI.out ba.out bb.out bf.out rfl (by decide) _ _ _ rfl J.out.ins (δ (d.heap.size+1) 0) 1 1 [ι 1001] rfl rfl a0.out (qi _) ?c3 ?c4 ?c5 ?_)
                   case c3=>unfold maxLen;omega
                   case c4=>omega
                   case c5=>first | exact F.out | simpa using F.out
                   intro v4 w4 al U _ _;have a4:=aa (J.out.sz (x:=1001) U al);have a3:=aa (ew (g:=0) Y.out J.out.ins F.out U);clear al U;go_wp2_with fail;refine bodyPost_ret (jh rfl _ _ _) rfl ?_;exact .ofR rfl ak.out a3.out a4.out
                 . have f2:(env.length:Int)<=I:=(by omega);clear hr;have J:=aa (ad.out.below (ap _ (.cells #[ι 1001] 3)));have Y:=aa (V.out.alloc V.out.size (.cells #[ι 1001] 3));have F:=aa Y.out.size;have a0:=aa (vv (d.alloc (.cells #[ι 1,ι n] 239)) 1001 (d.heap.size+1) (by simp));go_wp2_with (at_builtin;refine wpList_append_own_at _ rfl _ _ 36 rfl w.heap.size 3 i0 (ι 0) 1 8 underlying36 HI.out ba.out bb.out bf.out rfl (by decide) _ _ _ rfl J.out.ins (δ (d.heap.size+1) 0) 1 1 [ι 1001] rfl rfl a0.out (qi _) ?c3 ?c4 ?c5 ?_)
                   case c3=>unfold maxLen;omega
                   case c4=>omega
                   case c5=>first | exact F.out | simpa using F.out
                   intro v4 w4 al U _ _;have a4:=aa (J.out.sz (x:=1001) U al);have a3:=aa (ew (g:=0) Y.out J.out.ins F.out U);clear al U;go_wp2_with fail;refine bodyPost_ret (jh rfl _ _ _) rfl ?_;exact .ofR rfl ak.out a3.out a4.out
             . have O:doA ⟨1,I,am,ex⟩ X=none:=(by rw[ud (v:=.ok kk n) (by simp) (by simp) (by simp) hv];simp[doV,h1]);have ak:Hid (XR=X.vq):=aa (av.out.trans (oh O));clear av O;have ek:(kk != 1)=true:=(by simpa using h1);clear hv h1;go_wp2_with fail;refine a2.out.mono ?_;rintro e d⟨y,Q⟩;have Q:e=.returned (.tuple #[.agg #[ι kk,ι n],ι 0,ι (-1)]):=Q;subst Q;have ad:=aa ((a5.out.below y).below (ap d (.cells #[ι kk,ι n] 239)));have V:=aa ((Z.out.trans (y.mono Z.out.size)).alloc (a6 Z.out.size y.size) (.cells #[ι kk,ι n] 239));have ax:=aa ((a1.out.below y a1.out.lt).alloc (.cells #[ι kk,ι n] 239));obtain⟨⟨q0,q1,q2,q3⟩,_⟩:=ax.out.four;obtain⟨⟨y0,y1⟩,_⟩:=(cg.new d 239 #[ι kk,ι n]).eb;clear y;have J:=aa (ad.out.below (ap _ (.cells #[ι 1001] 3)));have Y:=aa (V.out.alloc V.out.size (.cells #[ι 1001] 3));have F:=aa Y.out.size;have a0:=aa (vv (d.alloc (.cells #[ι kk,ι n] 239)) 1001 (d.heap.size+1) (by simp));go_wp2_with (at_builtin;refine wpList_append_own_at _ rfl _ _ 36 rfl w.heap.size 3 i0 (ι 0) 1 8 underlying36 HI.out ba.out bb.out bf.out rfl (by decide) _ _ _ rfl J.out.ins (δ (d.heap.size+1) 0) 1 1 [ι 1001] rfl rfl a0.out (qi _) ?c3 ?c4 ?c5 ?_)
               case c3=>unfold maxLen;omega
               case c4=>omega
               case c5=>first | exact F.out | simpa using F.out
               intro v4 w4 al U _ _;have a4:=aa (J.out.sz (x:=1001) U al);have a3:=aa (ew (g:=0) Y.out J.out.ins F.out U);clear al U;go_wp2_with fail;refine bodyPost_ret (jh rfl _ _ _) rfl ?_;exact .ofR rfl ak.out a3.out a4.out
          . cases hv:aac ex X.env with
            | bad c =>
             rw[hv]at a2;have O:doA ⟨3,I,am,ex⟩ X=none:=(by rw[ud (v:=.bad c) (by simp) (by simp) (by simp) hv];rfl);have ak:Hid (XR=X.vq):=aa (av.out.trans (oh O));clear av O;clear hv;go_wp2_with fail;refine a2.out.mono ?_;rintro e d⟨y,z,Q,co⟩;have Q:e=.returned (.tuple #[.agg #[ι 0,ι 0],ι c,ι z]):=Q;subst Q;have ad:=aa ((a5.out.below y).below (ap d (.cells #[ι 0,ι 0] 239)));have V:=aa ((Z.out.trans (y.mono Z.out.size)).alloc (a6 Z.out.size y.size) (.cells #[ι 0,ι 0] 239));have ax:=aa ((a1.out.below y a1.out.lt).alloc (.cells #[ι 0,ι 0] 239));obtain⟨⟨q0,q1,q2,q3⟩,_⟩:=ax.out.four;obtain⟨⟨y0,y1⟩,_⟩:=(cg.new d 239 #[ι 0,ι 0]).eb;clear y;have J:=aa (ad.out.below (ap _ (.cells #[ι 1001] 3)));have Y:=aa (V.out.alloc V.out.size (.cells #[ι 1001] 3));have F:=aa Y.out.size;have a0:=aa (vv (d.alloc (.cells #[ι 0,ι 0] 239)) 1001 (d.heap.size+1) (by simp));go_wp2_with (at_builtin;refine wpList_append_own_at _ rfl _ _ 36 rfl w.heap.size 3 i0 (ι 0) 1 8 underlying36 HI.out ba.out bb.out bf.out rfl (by decide) _ _ _ rfl J.out.ins (δ (d.heap.size+1) 0) 1 1 [ι 1001] rfl rfl a0.out (qi _) ?c3 ?c4 ?c5 ?_)
             case c3=>unfold maxLen;omega
             case c4=>omega
             case c5=>first | exact F.out | simpa using F.out
             intro v4 w4 al U _ _;have a4:=aa (J.out.sz (x:=1001) U al);have a3:=aa (ew (g:=0) Y.out J.out.ins F.out U);clear al U;go_wp2_with fail;refine bodyPost_ret (jh rfl _ _ _) rfl ?_;exact .ofR rfl ak.out a3.out a4.out
            | ok kk n =>
             rw[hv]at a2;by_cases h1:kk=1
             . subst h1;have O:doA ⟨3,I,am,ex⟩ X=some ⟨X.env,X.out ++ [⟨3,I,am,n⟩],X.ins⟩:=(by rw[ud (v:=.ok 1 n) (by simp) (by simp) (by simp) hv];simp[doV,doK]);have ak:Hid (XR=doL (l.drop (k+1)) ⟨X.env,X.out ++ [⟨3,I,am,n⟩],X.ins⟩):=aa (av.out.trans (pf O));have a9:=aa (HC.out.next O);clear av HC O hv;go_wp2_with fail;refine a2.out.mono ?_;rintro e d⟨y,Q⟩;have Q:e=.returned (.tuple #[.agg #[ι 1,ι n],ι 0,ι (-1)]):=Q;subst Q;have ad:=aa ((a5.out.below y).below (ap d (.cells #[ι 1,ι n] 239)));have V:=aa ((Z.out.trans (y.mono Z.out.size)).alloc (a6 Z.out.size y.size) (.cells #[ι 1,ι n] 239));have ax:=aa ((a1.out.below y a1.out.lt).alloc (.cells #[ι 1,ι n] 239));obtain⟨⟨q0,q1,q2,q3⟩,_⟩:=ax.out.four;obtain⟨⟨y0,y1⟩,_⟩:=(cg.new d 239 #[ι 1,ι n]).eb;clear y;have J:=aa (ad.out.below (ap _ (.cells #[ι 3,ι I,ι am,ι n] 73)));have Y:=aa (V.out.alloc V.out.size (.cells #[ι 3,ι I,ι am,ι n] 73));have d6:=aa (ax.out.alloc (.cells #[ι 3,ι I,ι am,ι n] 73));have F:=aa Y.out.size;have a0:=aa (ahr (d.alloc (.cells #[ι 1,ι n] 239)) ⟨3,I,am,n⟩ (d.heap.size+1) (by simp));go_wp2_with (at_builtin;refine wpList_append_own_at _ rfl _ _ 39 rfl w.heap.size 73 i1 (.agg #[ι 0,ι 0,ι 0,ι 0]) 4 32 underlying39 JI.out b3.out b4.out b5.out rfl (by decide) _ _ _ rfl J.out.out (δ (d.heap.size+1) 0) 1 1 (ft ⟨3,I,am,n⟩) rfl rfl a0.out (ae2 _) ?c3 ?c4 ?c5 ?_)
               case c3=>unfold maxLen;omega
               case c4=>omega
               case c5=>first | exact F.out | simpa using F.out
               intro v4 w4 al U _ _;have a4:=aa (J.out.adl (o:=⟨3,I,am,n⟩) U al);have a3:=aa (ew (g:=0) Y.out J.out.out F.out U);clear al U;go_wp2;go_roundw
               case rel=>exact ⟨k+1,_,by omega,by go_num,a3,a4,ak,a9⟩
               case measure=>simp[intOf];omega
             . have O:doA ⟨3,I,am,ex⟩ X=none:=(by rw[ud (v:=.ok kk n) (by simp) (by simp) (by simp) hv];simp[doV,h1]);have ak:Hid (XR=X.vq):=aa (av.out.trans (oh O));clear av O;have ek:(kk != 1)=true:=(by simpa using h1);clear hv h1;go_wp2_with fail;refine a2.out.mono ?_;rintro e d⟨y,Q⟩;have Q:e=.returned (.tuple #[.agg #[ι kk,ι n],ι 0,ι (-1)]):=Q;subst Q;have ad:=aa ((a5.out.below y).below (ap d (.cells #[ι kk,ι n] 239)));have V:=aa ((Z.out.trans (y.mono Z.out.size)).alloc (a6 Z.out.size y.size) (.cells #[ι kk,ι n] 239));have ax:=aa ((a1.out.below y a1.out.lt).alloc (.cells #[ι kk,ι n] 239));obtain⟨⟨q0,q1,q2,q3⟩,_⟩:=ax.out.four;obtain⟨⟨y0,y1⟩,_⟩:=(cg.new d 239 #[ι kk,ι n]).eb;clear y;have J:=aa (ad.out.below (ap _ (.cells #[ι 1001] 3)));have Y:=aa (V.out.alloc V.out.size (.cells #[ι 1001] 3));have F:=aa Y.out.size;have a0:=aa (vv (d.alloc (.cells #[ι kk,ι n] 239)) 1001 (d.heap.size+1) (by simp));go_wp2_with (at_builtin;refine wpList_append_own_at _ rfl _ _ 36 rfl w.heap.size 3 i0 (ι 0) 1 8 underlying36 HI.out ba.out bb.out bf.out rfl (by decide) _ _ _ rfl J.out.ins (δ (d.heap.size+1) 0) 1 1 [ι 1001] rfl rfl a0.out (qi _) ?c3 ?c4 ?c5 ?_)
               case c3=>unfold maxLen;omega
               case c4=>omega
               case c5=>first | exact F.out | simpa using F.out
               intro v4 w4 al U _ _;have a4:=aa (J.out.sz (x:=1001) U al);have a3:=aa (ew (g:=0) Y.out J.out.ins F.out U);clear al U;go_wp2_with fail;refine bodyPost_ret (jh rfl _ _ _) rfl ?_;exact .ofR rfl ak.out a3.out a4.out
          . cases hv:aac ex X.env with
            | bad c =>
             rw[hv]at a2;have O:doA ⟨5,I,am,ex⟩ X=none:=(by rw[ud (v:=.bad c) (by simp) (by simp) (by simp) hv];rfl);have ak:Hid (XR=X.vq):=aa (av.out.trans (oh O));clear av O;clear hv;go_wp2_with fail;refine a2.out.mono ?_;rintro e d⟨y,z,Q,co⟩;have Q:e=.returned (.tuple #[.agg #[ι 0,ι 0],ι c,ι z]):=Q;subst Q;have ad:=aa ((a5.out.below y).below (ap d (.cells #[ι 0,ι 0] 239)));have V:=aa ((Z.out.trans (y.mono Z.out.size)).alloc (a6 Z.out.size y.size) (.cells #[ι 0,ι 0] 239));have ax:=aa ((a1.out.below y a1.out.lt).alloc (.cells #[ι 0,ι 0] 239));obtain⟨⟨q0,q1,q2,q3⟩,_⟩:=ax.out.four;obtain⟨⟨y0,y1⟩,_⟩:=(cg.new d 239 #[ι 0,ι 0]).eb;clear y;have J:=aa (ad.out.below (ap _ (.cells #[ι 1001] 3)));have Y:=aa (V.out.alloc V.out.size (.cells #[ι 1001] 3));have F:=aa Y.out.size;have a0:=aa (vv (d.alloc (.cells #[ι 0,ι 0] 239)) 1001 (d.heap.size+1) (by simp));go_wp2_with (at_builtin;refine wpList_append_own_at _ rfl _ _ 36 rfl w.heap.size 3 i0 (ι 0) 1 8 underlying36 HI.out ba.out bb.out bf.out rfl (by decide) _ _ _ rfl J.out.ins (δ (d.heap.size+1) 0) 1 1 [ι 1001] rfl rfl a0.out (qi _) ?c3 ?c4 ?c5 ?_)
             case c3=>unfold maxLen;omega
             case c4=>omega
             case c5=>first | exact F.out | simpa using F.out
             intro v4 w4 al U _ _;have a4:=aa (J.out.sz (x:=1001) U al);have a3:=aa (ew (g:=0) Y.out J.out.ins F.out U);clear al U;go_wp2_with fail;refine bodyPost_ret (jh rfl _ _ _) rfl ?_;exact .ofR rfl ak.out a3.out a4.out
            | ok kk n =>
             rw[hv]at a2;by_cases h1:kk=1
             . subst h1;have O:doA ⟨5,I,am,ex⟩ X=some ⟨X.env,X.out ++ [⟨5,0,0,n⟩],X.ins⟩:=(by rw[ud (v:=.ok 1 n) (by simp) (by simp) (by simp) hv];simp[doV,doK]);have ak:Hid (XR=doL (l.drop (k+1)) ⟨X.env,X.out ++ [⟨5,0,0,n⟩],X.ins⟩):=aa (av.out.trans (pf O));have a9:=aa (HC.out.next O);clear av HC O hv;go_wp2_with fail;refine a2.out.mono ?_;rintro e d⟨y,Q⟩;have Q:e=.returned (.tuple #[.agg #[ι 1,ι n],ι 0,ι (-1)]):=Q;subst Q;have ad:=aa ((a5.out.below y).below (ap d (.cells #[ι 1,ι n] 239)));have V:=aa ((Z.out.trans (y.mono Z.out.size)).alloc (a6 Z.out.size y.size) (.cells #[ι 1,ι n] 239));have ax:=aa ((a1.out.below y a1.out.lt).alloc (.cells #[ι 1,ι n] 239));obtain⟨⟨q0,q1,q2,q3⟩,_⟩:=ax.out.four;obtain⟨⟨y0,y1⟩,_⟩:=(cg.new d 239 #[ι 1,ι n]).eb;clear y;have J:=aa (ad.out.below (ap _ (.cells #[ι 5,ι 0,ι 0,ι n] 73)));have Y:=aa (V.out.alloc V.out.size (.cells #[ι 5,ι 0,ι 0,ι n] 73));have d6:=aa (ax.out.alloc (.cells #[ι 5,ι 0,ι 0,ι n] 73));have F:=aa Y.out.size;have a0:=aa (ahr (d.alloc (.cells #[ι 1,ι n] 239)) ⟨5,0,0,n⟩ (d.heap.size+1) (by simp));go_wp2_with (at_builtin;refine wpList_append_own_at _ rfl _ _ 39 rfl w.heap.size 73 i1 (.agg #[ι 0,ι 0,ι 0,ι 0]) 4 32 underlying39 JI.out b3.out b4.out b5.out rfl (by decide) _ _ _ rfl J.out.out (δ (d.heap.size+1) 0) 1 1 (ft ⟨5,0,0,n⟩) rfl rfl a0.out (ae2 _) ?c3 ?c4 ?c5 ?_)
               case c3=>unfold maxLen;omega
               case c4=>omega
               case c5=>first | exact F.out | simpa using F.out
               intro v4 w4 al U _ _;have a4:=aa (J.out.adl (o:=⟨5,0,0,n⟩) U al);have a3:=aa (ew (g:=0) Y.out J.out.out F.out U);clear al U;go_wp2;go_roundw
               case rel=>exact ⟨k+1,_,by omega,by go_num,a3,a4,ak,a9⟩
               case measure=>simp[intOf];omega
             . have O:doA ⟨5,I,am,ex⟩ X=none:=(by rw[ud (v:=.ok kk n) (by simp) (by simp) (by simp) hv];simp[doV,h1]);have ak:Hid (XR=X.vq):=aa (av.out.trans (oh O));clear av O;have ek:(kk != 1)=true:=(by simpa using h1);clear hv h1;go_wp2_with fail;refine a2.out.mono ?_;rintro e d⟨y,Q⟩;have Q:e=.returned (.tuple #[.agg #[ι kk,ι n],ι 0,ι (-1)]):=Q;subst Q;have ad:=aa ((a5.out.below y).below (ap d (.cells #[ι kk,ι n] 239)));have V:=aa ((Z.out.trans (y.mono Z.out.size)).alloc (a6 Z.out.size y.size) (.cells #[ι kk,ι n] 239));have ax:=aa ((a1.out.below y a1.out.lt).alloc (.cells #[ι kk,ι n] 239));obtain⟨⟨q0,q1,q2,q3⟩,_⟩:=ax.out.four;obtain⟨⟨y0,y1⟩,_⟩:=(cg.new d 239 #[ι kk,ι n]).eb;clear y;have J:=aa (ad.out.below (ap _ (.cells #[ι 1001] 3)));have Y:=aa (V.out.alloc V.out.size (.cells #[ι 1001] 3));have F:=aa Y.out.size;have a0:=aa (vv (d.alloc (.cells #[ι kk,ι n] 239)) 1001 (d.heap.size+1) (by simp));go_wp2_with (at_builtin;refine wpList_append_own_at _ rfl _ _ 36 rfl w.heap.size 3 i0 (ι 0) 1 8 underlying36 HI.out ba.out bb.out bf.out rfl (by decide) _ _ _ rfl J.out.ins (δ (d.heap.size+1) 0) 1 1 [ι 1001] rfl rfl a0.out (qi _) ?c3 ?c4 ?c5 ?_)
               case c3=>unfold maxLen;omega
               case c4=>omega
               case c5=>first | exact F.out | simpa using F.out
               intro v4 w4 al U _ _;have a4:=aa (J.out.sz (x:=1001) U al);have a3:=aa (ew (g:=0) Y.out J.out.ins F.out U);clear al U;go_wp2_with fail;refine bodyPost_ret (jh rfl _ _ _) rfl ?_;exact .ofR rfl ak.out a3.out a4.out
        . have O:doA ⟨kd,I,am,ex⟩ X=some X:=(by simp[doA,h2,h4,bs]);have ak:Hid (XR=doL (l.drop (k+1)) X):=aa (av.out.trans (pf O));have a9:=aa (HC.out.next O);have e1:(kd != 1)=true:=(by simp;exact λh=>bs (.inl h));have e2:(kd==2)=false:=(by simpa using h2);have e3:(kd != 3)=true:=(by simp;exact λh=>bs (.inr (.inl h)));have e4:(kd==4)=false:=(by simpa using h4);have e5:(kd != 5)=true:=(by simp;exact λh=>bs (.inr (.inr h)));clear av HC a2 O h2 h4 bs;go_wp2;go_roundw
          case rel=>exact ⟨k+1,X,by omega,by go_num,Z,a5,ak,a9⟩
          case measure=>simp[intOf];omega
  . obtain rfl:k=l.length:=(by omega);have ak:Hid (XR=X):=aa (by rw[HX.out,bz];rfl);go_wp2_with fail;refine bodyPost_ret (jh rfl _ _ _) rfl ?_;exact .ofR rfl ak.out HB.out HD.out
end Go.Proofs.YtpekhdfmmkmjaaaGreatDoor
