/- Texts of the proof, put together. -/
import Derived.Laws.AppendOwnNone
import Derived.Lib.SliceRun
import Derived.Test.YtpekhdfmmkmjaaaGreatDoorG9
namespace Go.Proofs.YtpekhdfmmkmjaaaGreatDoor
set_option maxHeartbeats 8000000
set_option maxRecDepth 100000
set_option linter.unusedVariables false
open Go.Proofs.Tryz
open Go.ChangeShapes Go.WideShapes Go.ChangeAt Go.RowKit
theorem abd{E:Func}{r s t:Tmp}(J:E.results=#[.cell r 239,.tmp s,.tmp t])(d:Array Value)(w:ω)(g:Nat)(a b:Value)
 (I:d.getD r undef=φ g 0)(F:cg w g 239 #[a,b]) :
 (results E d).run prog w=.ok (.tuple #[.agg #[a,b],d.getD s undef,d.getD t undef]) w:=by
 have y:=F.cell 0;have z:=F.cell 1;simp at y z I;simp[results,J,I,go_sem,y,z]
def awn(a:Ans)(env:List Int)(w:ω)(e:Ending)(d:ω):Prop :=
 κ w d/\match a with
  | .toks o=>e=.returned (.tuple #[.agg #[ι (ans ⟨false,env,0⟩ o).kind,ι (ans ⟨false,env,0⟩ o).num],ι (ans ⟨false,env,0⟩ o).code,ι (-1)])
  | .form k=>e=.returned (.tuple #[.agg #[ι 0,ι 0],ι 2,ι k])
  | .large=>e=.returned (.tuple #[.agg #[ι 0,ι 0],ι 3,ι (-1)])
theorem a7v{o:List Tk}{env:List Int}{u:Vl}{w d:ω}{e:Ending}(E:ans ⟨false,env,0⟩ o=u)(y:κ w d)(z:e=.returned (.tuple #[.agg #[ι u.kind,ι u.num],ι u.code,ι (-1)])):awn (.toks o) env w e d:=by subst E;exact⟨y,z⟩
theorem aw3(s:ByteArray)(Q:Value)(env:List Int)(w:ω)(hs:s.size<=1000000)(hE:fe w Q env)(a0:env.length<=1000)(ad:∀x∈env,uj x):Calls prog 224 #[.string s,Q] w (awn (fi s.data.toList) env w):=by
 have V:=aa ((ag w.heap.size w).alloc (ai _) (.cells #[ι 0,ι 0] 239));have HP:=aa (λW=>aut s W hs);have HE:=aa hE;have am:=aa ad;have av:=aa (λo=>tq (s:=s.data.toList) (o:=o));have Y:=aa (cg.new w 239 #[ι 0,ι 0]);generalize fi s.data.toList=a at *;clear hE ad;go_enter func224,ntmps224;go_wp2_with fail;refine(HP _).mono ?_;rintro e w1⟨J,z⟩;have y:=aa (V.trans (J.mono V.size));have d:=aa (Y.below J Y.lt);clear J;cases a with
 | toks o =>
  obtain⟨v,rfl,ak⟩:=z;obtain⟨a1,al,_⟩:=av.out o rfl;have Z:=aa (azm v Q o env w1 (lw.fg ak) (by omega) (HE.below y) a0 am al);generalize hu:ans ⟨false,env,0⟩ o=u at Z;have HU:=aa hu;clear hu;clear ak al a1;go_wp2_with fail;refine Z.mono ?_;rintro e U⟨rfl,O⟩;have F:=aa (y.trans (O.mono y.size));have E:=aa (d.below O d.lt);have ax:=aa (E.alloc (.cells #[ι u.kind,ι u.num] 239));have a2:=aa (F.alloc F.size (.cells #[ι u.kind,ι u.num] 239));have a3:=aa (cg.new U 239 #[ι u.kind,ι u.num]);have a5:w.heap.size<U.heap.size:=E.lt;obtain⟨⟨r0,r1⟩,f0,f1⟩:=E.eb;have a4:¬w.heap.size=U.heap.size:=by omega
  obtain⟨⟨q0,q1⟩,g0,g1⟩:=ax.eb;clear O;go_wp2_with fail;refine bodyPost_ret (abd Tryz.results224 _ _ w.heap.size _ _ (by rfl) ((E.set2 _ _).alloc _)) rfl (a7v HU (((F.setCell (by simp) _).setCell (by simp) _).alloc (by simp;omega) _) rfl)
 | form k =>have I:e=.returned (.tuple #[.slice none 0 0,ι 2,ι k]):=z;subst I;obtain⟨⟨r0,r1⟩,f0,f1⟩:=d.eb;clear z;go_wp2_with fail;refine bodyPost_ret (abd Tryz.results224 _ _ w.heap.size _ _ (by rfl) (d.set2 _ _)) rfl ⟨(y.setCell (by simp) _).setCell (by simp) _,rfl⟩
 | large =>have I:e=.returned (.tuple #[.slice none 0 0,ι 3,ι (-1)]):=z;subst I;obtain⟨⟨r0,r1⟩,f0,f1⟩:=d.eb;clear z;go_wp2_with fail;refine bodyPost_ret (abd Tryz.results224 _ _ w.heap.size _ _ (by rfl) (d.set2 _ _)) rfl ⟨(y.setCell (by simp) _).setCell (by simp) _,rfl⟩
theorem ah2(m:Md)(ts:List Tk)(I:∀t∈ts,t.2.1<=9223372036854775807)(F:∀x∈m.env,uj x):(∃k n,ans m ts=.ok k n/\sr (.ok k n))\/∃c:Nat,ans m ts=.bad (c:Int)/\1<=c/\c<=13:=by
 cases z:ae6 ts with
 | true =>
  obtain⟨O,E,J⟩:=ajv m z
  have d:=afr m I F ts.length (ai _) E
  rw[J]at d
  have d:=d _ (cf.2 rfl)
  cases y:ans m ts with
  | ok k n=>rw[y]at d;exact .inl ⟨k,n,rfl,d⟩
  | bad c =>
   rw[y]at d
   right
   rcases d with rfl | rfl | rfl
   . exact⟨4,rfl,by omega,by omega⟩
   . exact⟨8,rfl,by omega,by omega⟩
   . exact⟨9,rfl,by omega,by omega⟩
 | false=>exact .inr ⟨2,aju m z,by omega,by omega⟩
theorem kw{P:Program}{o:Oper}{a:Act}{w:ω}{K:Act->ω->Prop}{Q:Exit->Act->ω->Prop}(s x:Operand)(t:TypeId)
 (ho:o.op=.call {callee:=.builtin .append,args:=#[s,x],argTypes:=#[t,t]})
 (base:Nat)(e:TypeId)(i:TypeInfo)(z:Value)(size bytes:Nat)(ht:P.underlying t=some (.slice e))(Z:P.info? e=some i)(hz:i.zero=some z)
 (am:i.size=size)(W:i.bytes=bytes)(ax:z.cells.size=size)(av:0<size)
 (v:Value)(n:Nat)(xs:List Value)(hs:a.eval s=v)(al:w.ownsRow base e size v n xs)
 (E:Addr)(m c:Nat)(d:List Value)(hx:a.eval x=.slice (some E) m c)(hl:d.length=m*size)(ak:∀j u,d[j]?=some u->w.cell? (E.add j)=some u)(F:∀u∈d,u.oneCell'=true)
 (U:n+m<=maxLen)(Y:(n+m)*bytes<=140737488355328)(V:base<=w.heap.size)
 (h:∀v' y,y.ownsRow base e size v' (n+m) (xs++d)->w.grownBy y v.ownBlock->(v'.ownBlock=v.ownBlock\/v'.ownBlock=some w.heap.size)->K (a.put o.dst v') y) :
 o.wp P a w K Q:=by
 obtain⟨v',y,hr,I,J,h4,O⟩:=run_append_own_at (P:=P) w base t o.type e i z size bytes ht Z hz am W ax av v n xs al E m c d hl ak F U Y V;unfold Oper.wp execOp;simp only[ho,resolve,invoke,builtin,Sem.run_bind,Sem.run_pure,Result.andThen_ok,List.map_toArray,uk,List.map_nil,hs,hx,hr];exact h _ _ I J O
theorem a5z{P:Program}{y:Array Oper}{Q:Exit->Act->ω->Prop}{J:Region.Mode}{S:ω->Prop}{D:Nat->Bool}{i j:Nat}{O U:Oper}{fuel:Nat}{I:Array Bool}{a:Act}{w:ω}
 (hi:y[i]?=some O)(Y:O.guard=none)(hj:y[j]?=some U)(Z:U.guard=none)(W:Region.ready J y I=[i,j])
 (z:∀K:Act->ω->Prop,Hid (∀a' d,(D i=false->S w->S d)->s8 P J y Q S D fuel (I.setIfInBounds i true) a' d->K a' d)->O.wp P a w K Q)
 (E:∀K:Act->ω->Prop,Hid (∀a' d,(D j=false->S w->S d)->s8 P J y Q S D fuel (I.setIfInBounds j true) a' d->K a' d)->U.wp P a w K Q):s8 P J y Q S D (fuel+1) I a w:=by
 refine⟨λV=>(by rw[W]at V;cases V),λk F=>?_⟩;rw[W]at F;rcases ij.1 F with rfl | F
 . unfold wpOp;rw[hi];simp only[Region.wanted,Y,if_true];exact .inl (z _ (aa λa' d z E=>⟨z,E⟩))
 . obtain rfl:=cf.1 F;unfold wpOp;rw[hj];simp only[Region.wanted,Z,if_true];exact .inl (E _ (aa λa' d z E=>⟨z,E⟩))
theorem t8{P:Program}{y:Array Oper}{Q:Exit->Act->ω->Prop}{E:Region.Mode}{S:ω->Prop}{D:Nat->Bool}(i j:Nat){F I:Oper}{fuel:Nat}{z:Array Bool}{a:Act}{w:ω}
 (J:∀K:Act->ω->Prop,Hid (∀a' d,(D i=false->S w->S d)->s8 P E y Q S D fuel (z.setIfInBounds i true) a' d->K a' d)->F.wp P a w K Q)
 (O:∀K:Act->ω->Prop,Hid (∀a' d,(D j=false->S w->S d)->s8 P E y Q S D fuel (z.setIfInBounds j true) a' d->K a' d)->I.wp P a w K Q)
 (W:y[i]?=some F:=by exact rfl)(U:F.guard=none:=by exact rfl)(Y:y[j]?=some I:=by exact rfl)(V:I.guard=none:=by exact rfl)(Z:Region.ready E y z=[i,j]:=by kernel_rfl):s8 P E y Q S D (fuel+1) z a w :=
 a5z W U Y V Z J O
theorem aur(t:Tr)(vt va ve:Value)(env:List Int)(E:Int)(w:ω)(hs:t.guard.size<=1000000)(hE:fe w ve env)(av:env.length<=1000)(ad:∀x∈env,uj x) :
 Calls prog 225 #[awv t vt va,ve,ι E] w λe w'=>e=.returned (.tuple #[.bool (uv env E t).1,.bool (uv env E t).2])/\κ w w':=by
 have Q:=aa (λ(W:ω)(h:κ w W)=>aw3 t.guard ve env W hs (hE.below h) av ad);have am:=aa (λo(ho:fi t.guard.data.toList=.toks o)=>ah2 ⟨false,env,0⟩ o (tq ho).2.1 ad);have d:=aa (ap w (mi t vt va));have V:=un t.guard;by_cases y:t.ev=E
 . have HR:Hid (uv env E t=gdV t.guard env):=aa (ao y);have al:(t.ev != E)=false:=(by simp[y]);generalize uv env E t=R at *;obtain⟨a2,e0,O,a3,a1,acts⟩:=t;simp only at Q am d HR al V hs;clear hE ad y;by_cases Z:O.size=0
   . have Y:Hid (R=(true,false)):=aa (by rw[HR.out];exact ao Z);rw[show decide (O.size=0)=true by simpa using Z]at V;have a0:O.toList=[]:=(by simpa using V);clear Z;go_enter func225,ntmps225;go_wp2;go_ret2;exact⟨by rw[Y.out]<;>rfl,d⟩
   . have Y:Hid (R=gdA (fi O.data.toList) env):=aa (by rw[HR.out];exact ah Z);generalize fi O.data.toList=a at *;rw[show decide (O.size=0)=false by simpa using Z]at V;have a0:¬O.toList=[]:=(by intro h;rw[h]at V;cases V);clear Z;cases a with
     | toks o =>
      rcases am.out o rfl with ⟨k,n,U,_⟩ | ⟨c,U,a4,a5⟩
      . have HK:=aa U;have J:Hid (R=if k=2 then (decide (n=1),false) else (false,true)):=aa (by rw[Y.out];unfold gdA;simp only;rw[U]);clear U;by_cases h2:k=2
        . have ak:Hid (R=(decide (n=1),false)):=aa (by rw[J.out,ao h2]);have ax:(k != 2)=false:=(by simp[h2]);clear h2;go_enter func225,ntmps225;go_wp2_with fail;refine(Q _ d).mono ?_;rintro e w1⟨z,y⟩;have I:e=.returned (.tuple #[.agg #[ι k,ι n],ι 0,ι (-1)]):=(by have h:e=.returned (.tuple #[.agg #[ι (ans ⟨false,env,0⟩ o).kind,ι (ans ⟨false,env,0⟩ o).num],ι (ans ⟨false,env,0⟩ o).code,ι (-1)]):=y;rw[HK.out]at h;exact h);subst I;have F:=aa ((d.trans (z.mono d.size)).alloc (a6 d.size z.size) (.cells #[ι k,ι n] 239));clear y z;go_wp2;go_ret2;exact⟨by rw[ak.out]<;>rfl,F⟩
        . have ak:Hid (R=(false,true)):=aa (by rw[J.out,ah h2]);have ax:(k != 2)=true:=(by simpa using h2);clear h2;go_enter func225,ntmps225;go_wp2_with fail;refine(Q _ d).mono ?_;rintro e w1⟨z,y⟩;have I:e=.returned (.tuple #[.agg #[ι k,ι n],ι 0,ι (-1)]):=(by have h:e=.returned (.tuple #[.agg #[ι (ans ⟨false,env,0⟩ o).kind,ι (ans ⟨false,env,0⟩ o).num],ι (ans ⟨false,env,0⟩ o).code,ι (-1)]):=y;rw[HK.out]at h;exact h);subst I;have F:=aa ((d.trans (z.mono d.size)).alloc (a6 d.size z.size) (.cells #[ι k,ι n] 239));clear y z;go_wp2;go_ret2;exact⟨by rw[ak.out]<;>rfl,F⟩
      . have HK:=aa U;have J:Hid (R=(false,true)):=aa (by rw[Y.out];unfold gdA;simp only;rw[U]);have a9:((c:Int) != 0)=true:=(by rw[bne_iff_ne];omega);clear U;go_enter func225,ntmps225;go_wp2_with fail;refine(Q _ d).mono ?_;rintro e w1⟨z,y⟩;have I:e=.returned (.tuple #[.agg #[ι 0,ι 0],ι (c:Int),ι (-1)]):=(by have h:e=.returned (.tuple #[.agg #[ι (ans ⟨false,env,0⟩ o).kind,ι (ans ⟨false,env,0⟩ o).num],ι (ans ⟨false,env,0⟩ o).code,ι (-1)]):=y;rw[HK.out]at h;exact h);subst I;have F:=aa ((d.trans (z.mono d.size)).alloc (a6 d.size z.size) (.cells #[ι 0,ι 0] 239));clear y z;go_wp2;go_ret2;exact⟨by rw[J.out]<;>rfl,F⟩
     | form k =>have J:Hid (R=(false,true)):=aa Y;go_enter func225,ntmps225;go_wp2_with fail;refine(Q _ d).mono ?_;rintro e w1⟨z,y⟩;have I:e=.returned (.tuple #[.agg #[ι 0,ι 0],ι 2,ι k]):=y;subst I;have F:=aa ((d.trans (z.mono d.size)).alloc (a6 d.size z.size) (.cells #[ι 0,ι 0] 239));clear y z;go_wp2;go_ret2;exact⟨by rw[J.out]<;>rfl,F⟩
     | large =>have J:Hid (R=(false,true)):=aa Y;go_enter func225,ntmps225;go_wp2_with fail;refine(Q _ d).mono ?_;rintro e w1⟨z,y⟩;have I:e=.returned (.tuple #[.agg #[ι 0,ι 0],ι 3,ι (-1)]):=y;subst I;have F:=aa ((d.trans (z.mono d.size)).alloc (a6 d.size z.size) (.cells #[ι 0,ι 0] 239));clear y z;go_wp2;go_ret2;exact⟨by rw[J.out]<;>rfl,F⟩
 . have HR:Hid (uv env E t=(false,false)):=aa (ah y);generalize uv env E t=R at *;have al:(t.ev != E)=true:=(by simpa using y);obtain⟨a2,e0,O,a3,a1,acts⟩:=t;simp only at Q d al;clear hE ad y V;go_enter func225,ntmps225;go_wp2;go_ret2;exact⟨by rw[HR.out]<;>rfl,d⟩
theorem auv(vs vt ve:Value)(s d:Int)(C:Ch)(env:List Int)(w:ω)(hC:d8 w vs vt C)(hF:fewB C=true)(hE:fe w ve env)(bf:env.length<=1000)(am:∀x∈env,uj x) :
 Calls prog 173 #[.agg #[ι C.vars,vs,vt],ι s,ve,ι d] w λe w'=>e=.returned (.tuple #[ι (zb env d s C.ay 0 0).1,ι ((zb env d s C.ay 0 0).2:Int)])/\κ w w':=by
 have b3:C.ay.length<=60:=(fx hF).2.1;have a2:=aa (λ(k:Nat)(hk:k<C.ay.length)(W:ω)(h:κ w W)(vt va:Value)=>aur (es C.ay (k:Int)) vt va ve env d W (by have:=ano hF hk;omega) (hE.below h) bf am);have a5:=aa (λt=>a71 env d t);obtain⟨sA,b0,rA,bt,rfl,rfl⟩:=hC.slices;have HC:=aa hC;have z:∃X,X=zb env d s C.ay 0 0:=⟨_,rfl⟩;obtain⟨X,hX⟩:=z;rw[<-hX];have z:=aa hX;clear hF hC hE am hX;go_enter func173,ntmps173;go_wp2_with fail;go_loopw [10,11] (λv i wr=>∃j m:Nat,j<=C.ay.length/\m<=j/\i=ι (j:Int)/\v=ι (m:Int)/\Hid (X=zb env d s (C.ay.drop j) j m)/\κ (w.alloc (bu C.vars (.slice sA C.ab.length b0) (.slice rA C.ay.length bt))) wr) (λ_ i _=>C.ay.length-(intOf i).toNat)
 case atStart=>exact ⟨0,0,ar _,ar _,rfl,rfl,z,ag _ _⟩
 case round =>
  obtain⟨j,m,hj,hm,rfl,rfl,z,hb⟩:=hrel;obtain⟨wo,rfl⟩:∃wo:ω,wo=wr:=⟨_,rfl⟩;obtain⟨x0,x1,x2⟩:=bc hb;have F:=aa hb;have J:=aa (aj hb);by_cases O:j<C.ay.length
  . obtain⟨b2,o2,b1,wt,wa,bs,_,bb,ax,av⟩:=HC.tra O;injection bs with e1 e2 e3;subst e1;obtain⟨c0,c1,c2,c3,c4,c5⟩:=ax.below J bb;have a3:=aa (a2 j O);have a0:C.ay[j]=es C.ay (j:Int):=(by have:=acd O;rw[ae O]at this;injection this);have Y:Hid (X=zb env d s (es C.ay (j:Int)::C.ay.drop (j+1)) j m):=aa (by rw[z.out,bp O,a0]);generalize es C.ay (j:Int)=T at *;obtain⟨aA,a9,bA,ba,rfl,rfl⟩:=av.slices;obtain⟨Q,e0,ak,U,a1,acts⟩:=T;simp only at c0 c1 c2 c3 c4 c5;have V:=aa (a3 _ J (.slice aA U.length a9) (.slice bA acts.length ba));clear ax av hb a0 e3 e2;by_cases E:Q=s
    . have bk:(Q != s)=false:=(by simp[E]);cases hr:uv env d ⟨Q,e0,ak,U,a1,acts⟩ with
      | mk r1 r2 =>
       have a4:Hid (r1=true->r2=false):=aa (λh=>by have:=a5.out ⟨Q,e0,ak,U,a1,acts⟩;rw[hr]at this;exact this h)
       rw[hr]at V
       have Z:Hid (X=(if r1=true then ((j:Int),m) else zb env d s (C.ay.drop (j+1)) (j+1) (m+if r2=true then 1 else 0))):=aa (by rw[Y.out,zb,ao E,hr])
       generalize U.length=tl at *
       generalize acts.length=al at *
       clear hr E
       cases r1 with
       | true =>
        obtain rfl:=a4.out rfl
        have ad:Hid (X=((j:Int),m)):=aa (by rw[Z.out,ao rfl])
        go_wp2_with fail
        refine V.mono ?_
        rintro e w1⟨rfl,y⟩
        have I:=aa (J.trans (y.mono J.size))
        clear y
        go_wp2
        go_ret2
        exact⟨by rw[ad.out]<;>rfl,I⟩
       | false =>
        have ad:Hid (X=zb env d s (C.ay.drop (j+1)) (j+1) (m+if r2=true then 1 else 0)):=aa (by rw[Z.out,ah (by simp)])
        cases r2 with
        | true =>
         go_wp2_with fail
         refine V.mono ?_
         rintro e w1⟨rfl,y⟩
         have I:=aa (F.trans (y.mono F.size))
         clear y
         go_wp2
         go_roundw
         case rel=>exact ⟨j+1,m+1,by omega,by omega,by go_num,by go_num,ad,I⟩
         case measure=>simp[intOf];omega
        | false =>
         go_wp2_with fail
         refine V.mono ?_
         rintro e w1⟨rfl,y⟩
         have I:=aa (F.trans (y.mono F.size))
         clear y
         go_wp2
         go_roundw
         case rel=>exact ⟨j+1,m,by omega,by omega,by go_num,rfl,ad,I⟩
         case measure=>simp[intOf];omega
    . have bk:(Q != s)=true:=(by simpa using E);have Z:Hid (X=zb env d s (C.ay.drop (j+1)) (j+1) m):=aa (by rw[Y.out,zb,ah E]);generalize U.length=tl at *;generalize acts.length=al at *;clear E;go_wp2;go_roundw
      case rel=>exact ⟨j+1,m,by omega,by omega,by go_num,rfl,Z,F⟩
      case measure=>simp[intOf];omega
  . obtain rfl:j=C.ay.length:=(by omega);have Y:Hid (X=(-1,m)):=aa (by rw[z.out,bz,zb]);go_wp2;go_ret2;exact⟨by rw[Y.out]<;>rfl,J⟩
theorem aq9(n:Nat)(vs vt:Value)(C:Ch)(w:ω)(hC:d8 w vs vt C)(hl:C.ab.length<=31)(hn:n<4294967296) :
 Calls prog 172 #[.agg #[ι C.vars,vs,vt],.int .u32 (n:Int)] w (ab0 (lvL C.ab n) w):=by
 obtain⟨i0,HI,av,ax,a0⟩:=ιp Tryz.info3
 have HC:=aa hC
 obtain⟨sA,b1,rA,b0,rfl,rfl⟩:=hC.slices
 have a9:=aa (λk=>arx C.ab n k)
 have am:=aa (λk=>adu C.ab n k)
 have a5:Hid (∀k,abw C.ab n k=(cm n k&&zl (aq C.ab (k:Int)).kind)):=aa (λk=>rfl)
 have a3:Hid (lvL C.ab n=lvU C.ab n C.ab.length):=aa rfl
 have a4:=aa (λ(k:Nat)(hk:k<=1000)(W:ω)=>m0 n k hn hk W)
 generalize lvU C.ab n=U at *
 generalize abw C.ab n=P at *
 clear hC
 go_enter func172,ntmps172
 go_wp2_with fail
 go_loopw [5,6] (λv i wr=>∃k:Nat,k<=C.ab.length/\i=ι (k:Int)/\κ (w.alloc (bu C.vars (.slice sA C.ab.length b1) (.slice rA C.ay.length b0))) wr/\Hid (wr.ownsRow (w.heap.size+1) 3 1 v (U k).length (bg (U k)))) (λ_ i _=>C.ab.length-(intOf i).toNat)
 case atStart =>
  refine⟨0,ar _,rfl,ag _ _,aa ?_⟩
  have:U 0=[]:=bh (Nat.le_zero.1 (am 0))
  rw[this]
  exact bd _ _ _ _
 case round =>
  obtain⟨k,hk,rfl,V,z⟩:=hrel
  obtain⟨O,rfl⟩:∃O:ω,O=wr:=⟨_,rfl⟩
  obtain⟨x0,x1,x2⟩:=bc V
  have d:=aa V
  by_cases bs:k<C.ab.length
  . obtain⟨b,o,b2,vi,ve,vx,bt,_,bf,a2,bk⟩:=HC.st bs
    injection bt with e1 e2 e3
    subst e1
    obtain⟨c0,c1,c2,c3,c4⟩:=a2.below (aj V) bf
    have a1:=a5.out k
    have b4:=am.out k
    have b3:w.heap.size+1<=O.heap.size:=by have:=V.size;simpa using this
    have ak:=aa (a9 k)
    have E:=aa (a4 k (by omega) O)
    generalize (aq C.ab (k:Int)).kind=K at *
    generalize P k=p at *
    have F:=aa a1
    clear a1 V a2 bk e2 e3
    cases J:cm n k with
    | false =>
     have Y:decide (n / 2^k%2=1)=false:=J
     rw[Y]at E
     rw[J]at F
     clear J Y
     go_wp2_with fail
     refine E.mono ?_
     rintro e w1⟨rfl,rfl⟩
     go_wp2
     go_roundw
     case rel=>exact ⟨k+1,by omega,by go_num,d,aa (by rw[ak.out,ah (by rw[F.out];simp),dz];exact z.out)⟩
     case measure=>simp[intOf];omega
    | true =>
     have Y:decide (n / 2^k%2=1)=true:=J
     rw[Y]at E
     rw[J]at F
     clear J Y
     by_cases y:K=1
     . have ba:(K==1)=true:=by simpa using y
       have Q:Hid (zl K=true):=aa (by unfold zl;simp[y])
       clear y
       go_wp2_with fail
       refine E.mono ?_
       rintro e w1⟨rfl,rfl⟩
       go_wp2_with (at_builtin;refine wpList_append_own_at _ rfl _ _ 36 rfl (w.heap.size+1) 3 i0 (ι 0) 1 8 underlying36 HI av ax a0 rfl (by decide) _ _ _ rfl (z.out.alloc _) (δ O.heap.size 0) 1 1 [ι (k:Int)] rfl rfl ?c1 ?c2 ?c3 ?c4 ?c5 ?_)
       case c1=>exact g8 _ _ _ _ (by simp)
       case c2=>exact fl _
       case c3=>unfold maxLen;omega
       case c4=>omega
       case c5=>simp;omega
       intro v' w2 ad Z _ _
       have HG:=aa (ck (d.alloc d.size _) Z (by simp;omega) (λg hg=>by have:=(z.out.lt g hg).1;simpa using this))
       have al:=aa ad
       clear ad Z
       go_wp2
       go_roundw
       case rel=>exact ⟨k+1,by omega,by go_num,HG,aa (by rw[ak.out,ao (by rw[F.out,Q.out];rfl),dp];simpa using al.out)⟩
       case measure=>simp[intOf];omega
     . have ba:(K==1)=false:=by simpa using y
       by_cases I:K=4
       . have bb:(K==4)=true:=by simpa using I
         have Q:Hid (zl K=true):=aa (by unfold zl;simp[I])
         clear y I
         go_wp2_with fail
         refine E.mono ?_
         rintro e w1⟨rfl,rfl⟩
         go_wp2_with (at_builtin;refine wpList_append_own_at _ rfl _ _ 36 rfl (w.heap.size+1) 3 i0 (ι 0) 1 8 underlying36 HI av ax a0 rfl (by decide) _ _ _ rfl (z.out.alloc _) (δ O.heap.size 0) 1 1 [ι (k:Int)] rfl rfl ?c1 ?c2 ?c3 ?c4 ?c5 ?_)
         case c1=>exact g8 _ _ _ _ (by simp)
         case c2=>exact fl _
         case c3=>unfold maxLen;omega
         case c4=>omega
         case c5=>simp;omega
         intro v' w2 ad Z _ _
         have HG:=aa (ck (d.alloc d.size _) Z (by simp;omega) (λg hg=>by have:=(z.out.lt g hg).1;simpa using this))
         have al:=aa ad
         clear ad Z
         go_wp2
         go_roundw
         case rel=>exact ⟨k+1,by omega,by go_num,HG,aa (by rw[ak.out,ao (by rw[F.out,Q.out];rfl),dp];simpa using al.out)⟩
         case measure=>simp[intOf];omega
       . have bb:(K==4)=false:=by simpa using I
         have Q:Hid (zl K=false):=aa (by unfold zl;simp[y,I])
         clear y I
         go_wp2_with fail
         refine E.mono ?_
         rintro e w1⟨rfl,rfl⟩
         go_wp2
         go_roundw
         case rel=>exact ⟨k+1,by omega,by go_num,d,aa (by rw[ak.out,ah (by rw[F.out,Q.out];simp),dz];exact z.out)⟩
         case measure=>simp[intOf];omega
  . obtain rfl:k=C.ab.length:=by omega
    go_wp2
    go_ret
    exact⟨aj d,_,rfl,by rw[a3.out];exact fp z.out (by omega)⟩
structure Ou where
 kind:Int
 ev:Int
 dl:Int
 to:Int
structure Ds where
 env:List Int
 out:List Ou
 ins:List Int
def sb(a:Ans)(env:List Int):Vl :=
 match a with
 | .toks o=>ans ⟨false,env,0⟩ o
 | .form _=>.bad 2
 | .large=>.bad 3
def aac(e:ByteArray)(env:List Int):Vl:=sb (fi e.data.toList) env
def doK(a:Ac)(n:Int)(d:Ds):Option Ds :=
 if a.kind=1 then (if 0<=a.n/\a.n<(d.env.length:Int) then some ⟨d.env.set a.n.toNat n,d.out,d.ins⟩ else none)
 else if a.kind=3 then some ⟨d.env,d.out ++ [⟨3,a.n,a.m,n⟩],d.ins⟩
 else some ⟨d.env,d.out ++ [⟨5,0,0,n⟩],d.ins⟩
def doV(a:Ac)(d:Ds):Vl->Option Ds
 | .ok k n=>if k=1 then doK a n d else none
 | .bad _=>none
def doA(a:Ac)(d:Ds):Option Ds :=
 if a.kind=2 then some ⟨d.env,d.out,d.ins ++ [a.n]⟩
 else if a.kind=4 then some ⟨d.env,d.out ++ [⟨4,0,0,a.n⟩],d.ins⟩
 else if a.kind=1\/a.kind=3\/a.kind=5 then doV a d (aac a.expr d.env)
 else some d
def Ds.vq(d:Ds):Ds:=⟨d.env,d.out,d.ins ++ [1001]⟩
def doL:List Ac->Ds->Ds
 | [],d=>d
 | a::l,d=>match doA a d with
  | some y=>doL l y
  | none=>d.vq
theorem pf{a:Ac}{l:List Ac}{d y:Ds}(h:doA a d=some y):doL (a::l) d=doL l y:=by rw[doL,h]
theorem oh{a:Ac}{l:List Ac}{d:Ds}(h:doA a d=none):doL (a::l) d=d.vq:=by rw[doL,h]
structure bb6 (d d':Ds):Prop where
 env:d'.env.length=d.env.length
 out:d'.out.length<=d.out.length+1
 ins:d'.ins.length<=d.ins.length+1
theorem a5k{a:Ac}{n:Int}{d y:Ds}(h:doK a n d=some y):bb6 d y:=by
 unfold doK at h;split at h
 . split at h
   . injection h with h;subst h;exact ⟨by simp,by simp,by simp⟩
   . cases h
 . split at h
   . injection h with h;subst h;exact ⟨rfl,by simp,by simp⟩
   . injection h with h;subst h;exact ⟨rfl,by simp,by simp⟩
theorem a5j{a:Ac}{d y:Ds}{v:Vl}(h:doV a d v=some y):bb6 d y:=by
 cases v with
 | bad c=>cases h
 | ok k n =>
  unfold doV at h;simp only at h;split at h
  . exact a5k h
  . cases h
theorem agw{a:Ac}{d y:Ds}(h:doA a d=some y):bb6 d y:=by
 unfold doA at h;split at h
 . injection h with h;subst h;exact ⟨rfl,by simp,by simp⟩
 . split at h
   . injection h with h;subst h;exact ⟨rfl,by simp,by simp⟩
   . split at h
     . exact a5j h
     . injection h with h;subst h;exact ⟨rfl,by simp,by simp⟩
theorem aps:∀(l:List Ac)(d:Ds),(doL l d).env.length=d.env.length
 | [],d=>rfl
 | a::l,d=>by
  cases h:doA a d with
  | none=>rw[oh h];rfl
  | some y=>rw[pf h,aps l y,(agw h).env]
theorem ajs:∀(l:List Ac)(d:Ds),(doL l d).out.length<=d.out.length+l.length
 | [],d=>by simp[doL]
 | a::l,d=>by
  cases h:doA a d with
  | none=>rw[oh h];simp[Ds.vq]
  | some y =>
   have:=ajs l y
   have:=(agw h).out
   rw[pf h,bm]
   omega
theorem agv:∀(l:List Ac)(d:Ds),(doL l d).ins.length<=d.ins.length+l.length+1
 | [],d=>by simp[doL]
 | a::l,d=>by
  cases h:doA a d with
  | none=>rw[oh h];simp[Ds.vq]
  | some y =>
   have:=agv l y
   have:=(agw h).ins
   rw[pf h,bm]
   omega
def Ds.Fit(d:Ds):Prop:=∀x∈d.env,uj x
theorem a9g{a:Ac}{n:Int}{d z:Ds}(E:uj n)(y:d.Fit)(h:doK a n d=some z):z.Fit:=by
 unfold doK at h;split at h
 . split at h
   . injection h with h;subst h;intro x F;rcases List.mem_or_eq_of_mem_set F with h | h
     . exact y x h
     . exact h▸E
   . cases h
 . split at h
   . injection h with h;subst h;exact y
   . injection h with h;subst h;exact y
theorem cg.four{w:ω}{g:Nat}{t:TypeId}{x y z u:Value}(h:cg w g t #[x,y,z,u]) :
 (w.cell? (δ g 0)=some x/\w.cell? (δ g 1)=some y/\w.cell? (δ g 2)=some z/\w.cell? (δ g 3)=some u)/\(w.frozen? (δ g 0)=false/\w.frozen? (δ g 1)=false/\w.frozen? (δ g 2)=false/\w.frozen? (δ g 3)=false) :=
 ⟨⟨h.cell 0,h.cell 1,h.cell 2,h.cell 3⟩,h.frozen 0,h.frozen 1,h.frozen 2,h.frozen 3⟩
def ft(o:Ou):List Value:=[ι o.kind,ι o.ev,ι o.dl,ι o.to]
theorem aij(o:Ou):(ft o).length=4:=rfl
theorem Tryz.zz:(Tryz.prog.info? 73).map (λi=>(i.zero,i.size,i.bytes))=some (some (.agg #[ι 0,ι 0,ι 0,ι 0]),4,32):=by kernel_rfl
def awp(w:ω)(b o:Nat)(x:Ou):Prop :=
 w.cell? (δ b o)=some (ι x.kind)/\w.cell? (δ b (o+1))=some (ι x.ev)/\w.cell? (δ b (o+2))=some (ι x.dl)/\w.cell? (δ b (o+3))=some (ι x.to)
theorem awp.keeps:ai2 awp:=λw z b o x d y h =>
 ⟨(d.cell (p:=(δ b _)) y).trans h.1,(d.cell (p:=(δ b _)) y).trans h.2.1,(d.cell (p:=(δ b _)) y).trans h.2.2.1,(d.cell (p:=(δ b _)) y).trans h.2.2.2⟩
def abs(w:ω)(v:Value)(l:List Ou):Prop:=br 4 awp w v l
theorem abs.below{w d:ω}{v:Value}{l:List Ou}(h:abs w v l)(y:κ w d):abs d v l:=br.below awp.keeps h y
def iw(B:Nat)(w:ω)(v:Value)(L:List Ou):Prop:=w.ownsRow B 73 4 v L.length (L.flatMap ft)
def p9(B:Nat)(w:ω)(v:Value)(L:List Int):Prop:=w.ownsRow B 3 1 v L.length (bg L)
def ez(B:Nat)(w:ω)(v:Value)(L:List Int):Prop:=cu B w 2 1 sg v L
theorem iw.outs{B:Nat}{w:ω}{v:Value}{L:List Ou}(h:iw B w v L):abs w v L:=by have:=cu.rows (val:=λx:Ou=>x) (P:=awp) (cu.fg aij h) (λr _ b o d=>⟨d 0 _ rfl,d 1 _ rfl,d 2 _ rfl,d 3 _ rfl⟩);rwa [pw]at this
theorem ao2{w:ω}{v:Value}{L:List Int}(h:br 1 d7 w v L):fe w v L:=by obtain ⟨A,y,J,F,I⟩:=h;refine⟨A,y,J,F,λi x O=>?_⟩;obtain⟨b,o,z,E,d⟩:=I i x O;exact⟨b,o,z,E,by unfold d7 at d;rwa [bq]at d⟩
theorem iq{w:ω}{v:Value}{L:List Int}(h:fe w v L):br 1 d7 w v L:=by obtain ⟨A,d,I,E,F⟩:=h;refine⟨A,d,I,E,λi x J=>?_⟩;obtain⟨b,o,y,z,O⟩:=F i x J;exact⟨b,o,y,z,by unfold d7;rwa [bq]⟩
theorem ez.nums{B:Nat}{w:ω}{v:Value}{L:List Int}(h:ez B w v L):fe w v L:=by have:=cu.rows (val:=λx:Int=>x) (P:=d7) h (λr _ b o d=>d 0 _ rfl);rw[pw]at this;exact ao2 this
theorem ez.below{B:Nat}{w d:ω}{v:Value}{L:List Int}(h:ez B w v L)(y:κ w d):ez B d v L:=cu.below h y
theorem iw.below{B:Nat}{w d:ω}{v:Value}{L:List Ou}(h:iw B w v L)(y:κ w d):iw B d v L:=bl h y
theorem p9.below{B:Nat}{w d:ω}{v:Value}{L:List Int}(h:p9 B w v L)(y:κ w d):p9 B d v L:=bl h y
theorem ez.slice{B:Nat}{w:ω}{v:Value}{L:List Int}(h:ez B w v L):∃A cap,v=.slice A L.length cap:=by
 rcases h with ⟨rfl,rfl⟩ | ⟨g,cap,_,rfl,_⟩
 . exact⟨_,_,rfl⟩
 . exact⟨_,_,rfl⟩
theorem m5{w:ω}{B:Nat}{e t:TypeId}{s n g:Nat}{v:Value}{xs:List Value}{cs:Array Value}(h:w.ownsRow B e s v n xs)(z:cg w g t cs)(I:e≠t):v.ownBlock≠some g:=by
 rcases h.2 with ⟨rfl,_⟩ | ⟨E,J,O,rfl,_,y,_⟩
 . intro d;cases d
 . intro d;have d:E=g:=(by injection d);subst d;unfold cg at z;rw[z]at y;injection y with y;injection y with _ F;exact I F.symm
theorem du{w:ω}{B:Nat}{e t:TypeId}{s n g:Nat}{v:Value}{xs:List Value}{cs:Array Value}(h:w.ownsRow B e s v n xs)(Q:cg w g t cs)(O:e≠t)(j:Nat)(u:Value):(w.setCell (δ g j) u).ownsRow B e s v n xs:=by
 have V:=m5 h Q O;refine⟨h.1,?_⟩;rcases h.2 with y | ⟨d,z,E,rfl,y,F,I⟩
 . exact .inl y
 . have U:d≠g:=λJ=>V (by rw[J];rfl);exact .inr ⟨d,z,E,rfl,y,(cz w (δ g j) u d U).trans F,I⟩
theorem zg{w:ω}{B B':Nat}{e t:TypeId}{s I n F:Nat}{v u:Value}{xs ys:List Value}(h:w.ownsRow B e s v n xs)(E:w.ownsRow B' t I u F ys)(y:e≠t):v.ownBlock=none\/v.ownBlock≠u.ownBlock:=by
 rcases E.2 with ⟨rfl,_⟩ | ⟨g,J,O,rfl,_,z,_⟩
 . cases Q:v.ownBlock with
   | none=>exact .inl rfl
   | some k=>exact .inr (by intro d;cases d)
 . exact .inr (m5 h z y)
theorem adn{w y:ω}{B B':Nat}{e t:TypeId}{s n:Nat}{v u:Value}{L:List Int}{xs:List Value}(h:cu B w e 1 sg v L)(W:w.ownsRow B' t s u n xs)(U:e≠t)(V:w.grownBy y u.ownBlock):cu B y e 1 sg v L:=by
 rcases h with h | ⟨g,z,E,F,I,d,J,O⟩
 . exact .inl h
 . refine .inr ⟨g,z,E,F,I,d.grown V ?_,J,O⟩;exact λQ=>m5 W d (j1 U) Q.symm
structure lk (B g:Nat) (w:World) (ve vo vi:Value) (X:Ds):Prop where
 blk:cg w g 233 #[ve,vo,vi]
 ge:B<=g
 env:ez B w ve X.env
 out:iw B w vo X.out
 ins:p9 B w vi X.ins
theorem lk.below{B g:Nat}{w F:ω}{y E z:Value}{X:Ds}(h:lk B g w y E z X)(d:κ w F):lk B g F y E z X :=
 ⟨h.blk.below d h.blk.lt,h.ge,h.env.below d,h.out.below d,h.ins.below d⟩
theorem lk.drewN{B g:Nat}{w:ω}{d z y:Value}{X:Ds}(h:lk B g w d z y X)(n:Nat):lk B g (w.drewN n) d z y X:=⟨h.blk,h.ge,h.env,h.out,h.ins⟩
theorem lk.drew{B g:Nat}{w:ω}{d z y:Value}{X:Ds}(h:lk B g w d z y X):lk B g w.drew d z y X:=⟨h.blk,h.ge,h.env,h.out,h.ins⟩
theorem lk.lt{B g:Nat}{w:ω}{d z y:Value}{X:Ds}(h:lk B g w d z y X):B<=w.heap.size:=su (Nat.lt_of_le_of_lt h.ge h.blk.lt)
theorem anb{B:Nat}{w:ω}{v:Value}{L:List Ou}{o:Ou}(h:w.ownsRow B 73 4 v (L.length+1) (L.flatMap ft++ft o)):iw B w v (L ++ [o]):=by unfold iw;rw[j7,aw];simpa using h
theorem ash{B:Nat}{w:ω}{v:Value}{L:List Int}{x:Int}(h:w.ownsRow B 3 1 v (L.length+1) (bg L ++ [ι x])):p9 B w v (L ++ [x]):=by unfold p9 bg;rw[ik,aw];exact h
theorem lk.adl{B g:Nat}{w y:ω}{E I F v':Value}{X:Ds}{o:Ou}(h:lk B g w E I F X)(z:w.grownBy y I.ownBlock)(J:y.ownsRow B 73 4 v' (X.out.length+1) (X.out.flatMap ft++ft o)) :
 lk B g (y.setCell (δ g 1) v') E v' F ⟨X.env,X.out ++ [o],X.ins⟩:=by
 have d:cg y g 233 #[E,I,F]:=h.blk.grown z (j1 (m5 h.out h.blk (by decide)));exact⟨d.ca 1 v',h.ge,cu.apart (adn h.env h.out (by decide) z) d (by decide) 1 v',du (anb J) d (by decide) 1 v',du (World.ownsRow.kept h.ins z (zg h.ins h.out (by decide))) d (by decide) 1 v'⟩
theorem lk.sz{B g:Nat}{w y:ω}{E I F v':Value}{X:Ds}{x:Int}(h:lk B g w E I F X)(z:w.grownBy y F.ownBlock)(J:y.ownsRow B 3 1 v' (X.ins.length+1) (bg X.ins ++ [ι x])) :
 lk B g (y.setCell (δ g 2) v') E I v' ⟨X.env,X.out,X.ins ++ [x]⟩:=by
 have d:cg y g 233 #[E,I,F]:=h.blk.grown z (j1 (m5 h.ins h.blk (by decide)));exact⟨d.ca 2 v',h.ge,cu.apart (adn h.env h.ins (by decide) z) d (by decide) 2 v',du (World.ownsRow.kept h.out z (zg h.out h.ins (by decide))) d (by decide) 2 v',du (ash J) d (by decide) 2 v'⟩
theorem a48{B:Nat}{w:ω}{b cap:Nat}{L:List Int}{k:Nat}{n:Int}(h:ez B w (.slice (some (δ b 0)) L.length cap) L)(d:k<L.length):ez B (w.setCell (δ b k) (ι n)) (.slice (some (δ b 0)) L.length cap) (L.set k n):=by have:=cu.put (cells:=sg) (r':=n) (u:=ι n) (j:=0) (λ_=>rfl) h (ae d) (by decide) rfl;rwa [bq,iy]at this
theorem ez.place{B:Nat}{w:ω}{v:Value}{L:List Int}{k:Nat}(h:ez B w v L)(F:k<L.length):∃b cap d,v=.slice (some (δ b 0)) L.length cap/\L.length<=cap/\B<=b/\cg w b 2 d/\w.cell? (δ b k)=some (ι L[k])/\w.frozen? (δ b k)=false:=by obtain ⟨g,cap,d,rfl,z,y,E,I⟩:=cu.at_ h (ae F);have:=I 0 _ rfl;rw[bq,iy]at this;exact⟨g,cap,d,rfl,z,y,E,this.1,this.2⟩
theorem lk.put{B g:Nat}{w:ω}{b cap:Nat}{E z:Value}{X:Ds}{k:Nat}{n:Int}{F:Array Value}(h:lk B g w (.slice (some (δ b 0)) X.env.length cap) E z X)(y:cg w b 2 F)(O:k<X.env.length) :
 lk B g (w.setCell (δ b k) (ι n)) (.slice (some (δ b 0)) X.env.length cap) E z ⟨X.env.set k n,X.out,X.ins⟩:=by
 have Q:g≠b:=by intro J;subst J;have d:=h.blk;unfold cg at d y;rw[y]at d;injection d with d;injection d with _ I;exact absurd I (by decide)
 exact⟨(cz w (δ b k) _ g Q).trans h.blk,h.ge,a48 h.env O,du h.out y (by decide) k _,du h.ins y (by decide) k _⟩
theorem acu(w:ω)(e:TypeId)(s:Nat):(w.alloc (.cells #[] e)).ownsRow w.heap.size e s (.slice (some (δ w.heap.size 0)) 0 0) 0 [] :=
 ⟨by simp,.inr ⟨w.heap.size,0,#[],rfl,ai _,cg.new w e #[],ai _,by unfold maxLen;omega,by simp,by simp⟩⟩
theorem abn{B:Nat}{w:ω}{v:Value}{L:List Int}{n:Nat}(h:w.ownsRow B 2 1 v n (bg L))(d:n=L.length):ez B w v L:=by subst d;exact cu.fg (cells:=sg) (n:=1) (λ_=>rfl) (by rw[adw];exact h)
theorem a8n(c:Nat)(w:ω):(binOp .eql 35 (.slice none 0 c) (.slice none 0 0)).run prog w=.ok (.bool true) w:=by kernel_rfl
theorem ba7(d:Addr)(n c:Nat)(w:ω):(binOp .eql 35 (.slice (some d) n c) (.slice none 0 0)).run prog w=.ok (.bool false) w:=by kernel_rfl
theorem anq(v:Value)(L:List Int)(w:ω)(h:fe w v L)(hl:L.length<=1000) :
 Calls prog 98 #[v] w λe Y=>κ w Y/\∃v',e=.returned v'/\ez w.heap.size Y v' L:=by
 have hr:=l9 (iq h);clear h;obtain⟨y,⟨c,rfl,J⟩ | ⟨F,I,rfl,O,U⟩⟩:=hr
 . obtain rfl:L=[]:=bh J;have av:=λW=>a8n c W;clear y J hl;go_enter func98,ntmps98;go_wp2;go_ret;exact⟨ag _ _,_,rfl,.inl ⟨rfl,rfl⟩⟩
 . obtain⟨i0,HI,ak,al,am⟩:=ιp Tryz.ah7;have HN:=aa y;have z:=aa (ap w (.cells #[] 2));have E:=aa (λ(j:Nat)(u:Value)(d:(bg L)[j]?=some u)=>(O j u d));have HO:=aa U;have av:=λW=>ba7 F L.length I W;clear y O U;go_enter func98,ntmps98;go_wp2_with (at_builtin;refine wpList_append_own_at _ rfl _ _ 35 rfl w.heap.size 2 i0 (ι 0) 1 8 underlying35 HI ak al am rfl (by decide) _ 0 [] rfl (acu w 2 1) F L.length I (bg L) rfl HN ?c1 HO ?c3 ?c4 ?c5 ?_)
   case c1=>exact λj u d=>(z.cell (Lib.lt_of_cell (E j u d))).trans (E j u d)
   case c3=>unfold maxLen;omega
   case c4=>omega
   case c5=>simp
   intro v' w2 V Q _ _;have Z:=aa (ck z Q (by simp) (λg hg=>by have h:some w.heap.size=some g:=hg;injection h with h;omega));have HW:=aa V;clear V Q;go_wp2;go_ret;exact⟨Z,_,rfl,abn (by simpa using HW.out) rfl⟩
theorem az3(v u:Value)(L:List Int)(w:ω)(U:fe w v L)(Q:fe w u L)(hl:L.length<=1000) :
 Calls prog 26 #[v,u] w λe w'=>e=.returned (.bool true)/\κ w w':=by
 obtain⟨A,al,rfl,av,I⟩:=iq U;obtain⟨A',am,rfl,ax,J⟩:=iq Q;have W:=aa I;have Y:=aa J;clear I J U Q;go_enter func26,ntmps26;go_wp2_with fail;go_loopw [5] (λi wr=>∃k:Nat,k<=L.length/\i=ι (k:Int)/\κ w wr) (λi _=>L.length-(intOf i).toNat)
 case atStart=>exact ⟨0,ar _,rfl,ag _ _⟩
 case round =>
  obtain⟨k,hk,rfl,y⟩:=hrel;obtain⟨d,rfl⟩:∃d:ω,d=wr:=⟨_,rfl⟩;by_cases O:k<L.length
  . obtain⟨b,o,rfl,Z,E⟩:=W.out k _ (ae O);obtain⟨z,o',rfl,ad,F⟩:=Y.out k _ (ae O);have c0:d.cell? (δ b (o+k))=some (ι L[k]):=(by have:=d7.keeps w d b _ _ y Z E;rwa [bq]at this);have ak:d.cell? (δ z (o'+k))=some (ι L[k]):=(by have:=d7.keeps w d z _ _ y ad F;rwa [bq]at this);generalize L[k]=x at *;have V:=aa y;have a0:(x != x)=false:=(by simp);clear E F y;go_wp2_with fail;go_quiet (fail);go_wp2;go_roundw
    case rel=>exact ⟨k+1,by omega,by go_num,bx V _⟩
    case measure=>simp[intOf];omega
  . obtain rfl:k=L.length:=(by omega);go_wp2;go_ret;exact⟨rfl,y⟩
theorem a41:prog.underlying 73=some (.struct (prog.fieldsOf 73)):=by kernel_rfl
theorem bbe:prog.stoodInHeld 73=false:=by kernel_rfl
theorem au6(a b c d:Int)(w:ω):(binOp .neq 73 (.agg #[ι a,ι b,ι c,ι d]) (.agg #[ι a,ι b,ι c,ι d])).run prog w=.ok (.bool false) w:=by rw[run_neq_struct,run_equalIn_agg _ _ _ _ _ a41 bbe];simp[go_sem]
def kf(B g:Nat)(b:Bool)(X:Ds)(w:ω)(e:Ending)(d:ω):Prop:=e=.returned (.bool b)/\Below B w d/\∃y E z,lk B g d y E z X
theorem kf.of{B g:Nat}{b y:Bool}{X:Ds}{w d:ω}{e:Ending}{I O J:Value}(F:e=.returned (.bool y))(E:y=b)(z:Below B w d)(h:lk B g d I O J X):kf B g b X w e d:=⟨E▸F,z,_,_,_,h⟩
theorem a04(B g:Nat)(E I F:Value)(X:Ds)(p n:Int)(w:ω)(d:lk B g w E I F X)(ad:X.env.length<=1000)(z:¬(0<=p/\p<(X.env.length:Int))) :
 Calls prog 278 #[φ g 0,ι p,ι n] w (kf B g false X w):=by
 have y:=aa d;obtain⟨A,U,rfl⟩:=d.env.slice;obtain⟨⟨J,O,Q⟩,V,W,Y⟩:=d.blk.ax;clear d;by_cases Z:p<0
 . clear z;go_enter func278,ntmps278;go_wp2;go_ret;exact .of rfl rfl (ag _ _) y
 . have h1:(X.env.length:Int)<=p:=(by omega);clear z;go_enter func278,ntmps278;go_wp2;go_ret;exact .of rfl rfl (ag _ _) y
theorem awf(B g:Nat)(J Q O:Value)(X:Ds)(k:Nat)(n:Int)(w:ω)(d:lk B g w J Q O X)(am:X.env.length<=1000)(E:k<X.env.length) :
 Calls prog 278 #[φ g 0,ι (k:Int),ι n] w (kf B g true ⟨X.env.set k n,X.out,X.ins⟩ w):=by
 obtain⟨b,Y,ad,rfl,al,z,y,Z,fb⟩:=d.env.place E;have I:=aa (d.put (n:=n) y E);have F:=aa ((ag B w).setCell (p:=(δ b k)) z (ι n));obtain⟨⟨U,V,W⟩,f0,f1,f2⟩:=d.blk.ax;have h0:¬((k:Int)<0):=by omega
 have h1:¬((X.env.length:Int)<=(k:Int)):=by omega
 have ak:b<w.heap.size:=y.lt;generalize X.env[k]=av at *;clear d y z;go_enter func278,ntmps278;go_wp2;go_ret;exact .of rfl rfl F I
theorem awg(B g:Nat)(y E z:Value)(X:Ds)(a:Ac)(n:Int)(w:ω)(F:lk B g w y E z X)(I:X.env.length<=1000)(J:a.kind=1) :
 Calls prog 278 #[φ g 0,ι a.n,ι n] w (kf B g (doK a n X).isSome ((doK a n X).getD X) w):=by
 unfold doK;rw[ao J];by_cases d:0<=a.n/\a.n<(X.env.length:Int)
 . rw[ao d];have:=awf B g y E z X a.n.toNat n w F I (by omega);rwa [Int.toNat_of_nonneg d.1]at this
 . rw[ah d];exact a04 B g y E z X a.n n w F I d
def lc(c:nk):List Value:=[ι c.num,ι c.src,.int .u32 (c.left:Int)]
abbrev ahz(c:nk):Value:=.agg #[ι c.num,ι c.src,.int .u32 (c.left:Int)]
abbrev fd(c:nk):Array Value:=#[ι c.num,ι c.src,.int .u32 (c.left:Int)]
def aai(d:List nk):List Value:=d.flatMap lc
def amd(w:ω)(b o:Nat)(c:nk):Prop:=w.cell? (δ b o)=some (ι c.num)/\w.cell? (δ b (o+1))=some (ι c.src)/\w.cell? (δ b (o+2))=some (.int .u32 (c.left:Int))
theorem amd.keeps:ai2 amd:=λw z b o x d y h=>⟨(d.cell (p:=(δ b _)) y).trans h.1,(d.cell (p:=(δ b _)) y).trans h.2.1,(d.cell (p:=(δ b _)) y).trans h.2.2⟩
def afm(w:ω)(v:Value)(l:List nk):Prop:=br 3 amd w v l
theorem afm.below{w d:ω}{v:Value}{l:List nk}(h:afm w v l)(y:κ w d):afm d v l:=br.below amd.keeps h y
theorem vg{w:ω}{B:Nat}{v:Value}{l:List nk}(h:w.ownsRow B 183 3 v l.length (aai l)):afm w v l:=by have:=cu.rows (val:=λx:nk=>x) (P:=amd) (cu.fg (cells:=lc) (n:=3) (λ_=>rfl) h) (λr _ b o d=>⟨d 0 _ rfl,d 1 _ rfl,d 2 _ rfl⟩);rwa [pw]at this
def a6j(F:Nat)(d:Array Value)(p:nk->Bool)(y:List nk)(w:ω):Prop :=
 ∀(W:ω)(x:nk),x∈y->κ w W->Calls prog F (#[ahz x]++d) W λe z=>e=.returned (.bool (p x))/\κ W z
def bb7(p:nk->Bool)(d:List nk)(r:Int):Prop :=
 (r=-1/\d.any p=false)\/∃k:Nat,r=(k:Int)/\k<d.length/\(∀c,d[k]?=some c->p c=true)/\∀j c,j<k->d[j]?=some c->p c=false
theorem afb(F:Nat)(ad:Array Value)(p:nk->Bool)(v:Value)(y:List nk)(w:ω)(hE:lh F)(hp:a6j F ad p y w)(hv:afm w v y)(hl:y.length<=1000) :
 Calls prog 250 #[v,.func (.func F) #[] ad] w λe w'=>κ w w'/\∃r,e=.returned (ι r)/\bb7 p y r:=by
 have HP:=aa hp;obtain⟨A,a1,rfl,a2,he⟩:=hv;have HE:=aa he;unfold lh at hE;clear hp he;go_enter func250,ntmps250;go_wp2_with fail;go_loopw [8] (λi wr=>∃k:Nat,k<=y.length/\i=ι (k:Int)/\Hid (∀j c,j<k->y[j]?=some c->p c=false)/\κ w wr) (λi _=>y.length-(intOf i).toNat)
 case atStart=>exact ⟨0,ar _,rfl,aa (λj c z=>absurd z (Nat.not_lt_zero _)),ag _ _⟩
 case round =>
  obtain⟨k,hk,rfl,Q,E⟩:=hrel;obtain⟨J,rfl⟩:∃J:ω,J=wr:=⟨_,rfl⟩;have O:=aa E;by_cases V:k<y.length
  . have W:=ae V;obtain⟨b,o,rfl,av,d⟩:=HE.out k _ W;have al:=HP.out J y[k] (bw V) E;obtain⟨c0,c1,c2⟩:=amd.keeps w J b _ _ E av d;generalize y[k]=x at *;have Z:=aa W;have am:=aa al;obtain⟨num,a0,left⟩:=x;simp only at c0 c1 c2;clear d E W al;go_wp2_with fail;refine am.mono ?_;rintro e w1⟨rfl,ak⟩;have Y:=aa (O.trans (ak.mono O.size));clear ak;cases I:p ⟨num,a0,left⟩ with
    | true =>have U:=aa I;clear I;go_wp2;go_ret;exact⟨Y,_,rfl,.inr ⟨k,rfl,V,λc d=>by rw[Z.out]at d;injection d with d;subst d;exact U,Q⟩⟩
    | false =>
     have U:=aa I;clear I;go_wp2;go_roundw
     case rel=>exact ⟨k+1,by omega,by go_num,aa (λj c z d=>by
      by_cases ax:j=k
      . subst ax;rw[Z.out]at d;injection d with d;subst d;exact U
      . exact Q j c (by omega) d),Y⟩
     case measure=>simp[intOf];omega
  . obtain rfl:k=y.length:=(by omega);go_wp2;go_ret;refine⟨O,_,rfl,.inl ⟨rfl,?_⟩⟩;rw[gy];intro c d;obtain⟨j,z⟩:=jp d;have:=Q.out j c (bo.1 z).1 z;simp[this]
theorem aeh(F:Nat)(E:Array Value)(p:nk->Bool)(v:Value)(d:List nk)(w:ω)(O:lh F)(V:a6j F E p d w)(W:afm w v d)(Z:d.length<=1000) :
 Calls prog 201 #[v,.func (.func F) #[] E] w λe w'=>e=.returned (.bool (d.any p))/\κ w w':=by
 have Y:=aa (afb F E p v d w O V W Z);obtain⟨A,ad,rfl,ak,_⟩:=W;clear V O;go_enter func201,ntmps201;go_wp2_with fail;refine Y.mono ?_;rintro e w1⟨I,r,rfl,y⟩;have J:=aa I;rcases y with ⟨rfl,y⟩ | ⟨k,rfl,U,Q,_⟩
 . have z:=aa y;clear I y;go_wp2;go_ret;exact⟨az z.symm,J⟩
 . have z:Hid (d.any p=true):=aa (iz.2 ⟨d[k],bw U,Q _ (ae U)⟩);have al:decide (0<=(k:Int))=true:=(by simp);clear I Q;go_wp2;go_ret;exact⟨az z.symm,J⟩
theorem a5e:lh 202:=pt func202 (by kernel_rfl) rfl
theorem ad0:lh 203:=pt func203 (by kernel_rfl) rfl
theorem a5c:lh 204:=pt func204 (by kernel_rfl) rfl
theorem a09(x:nk)(i:Int)(h:Nat)(W:ω)(d:cg W h 3 #[ι i]) :
 Calls prog 202 #[ahz x,φ h 0] W λe E=>e=.returned (.bool (decide (x.num=i)))/\κ W E:=by
 have z:=(d.alloc (.cells (fd x) 183)).cell 0;simp at z;have y:=aa (ap W (.cells (fd x) 183));obtain⟨num,F,left⟩:=x;clear d;go_enter func202,ntmps202;go_wp2;go_ret;exact⟨az rfl,y⟩
theorem ahx(x one:nk)(h:Nat)(W:ω)(E:cg W h 183 (fd one))(Q:x.left<4294967296)(O:one.left<4294967296) :
 Calls prog 203 #[ahz x,φ h 0] W λe U=>e=.returned (.bool (clB x one))/\κ W U:=by
 obtain⟨⟨F,I,J⟩,-⟩:=(E.alloc (.cells (fd x) 183)).ax;have d:=aa (bb0 x.left one.left Q O);have y:=aa (ap W (.cells (fd x) 183));have z:Hid (clB x one=decide (x.left &&& one.left≠0)):=aa rfl;generalize clB x one=R at *;obtain⟨num,Z,left⟩:=x;obtain⟨Y,ad,V⟩:=one;simp only at F I J y d z;clear E;go_enter func203,ntmps203;go_wp2;go_ret;exact⟨az (d.trans z.symm),y⟩
theorem ay6(g h hf ht:Nat)(x one:nk)(C:Ch)(W:ω)(Z:fs W g C)(hl:C.ab.length<=1000)(Y:p8 C.ab)(Q:cg W h 183 (fd one))(ad:cg W hf 226 #[.func (.func 203) #[] #[φ h 0]])(ak:cg W ht 28 #[φ g 0])
 (hx:x.left<4294967296)(ho:one.left<4294967296) :
 Calls prog 204 #[ahz x,φ hf 0,φ ht 0,φ h 0] W λe w'=>e=.returned (.bool (aic C.ab one x))/\κ W w':=by
 have V:=(ad.alloc (.cells (fd x) 183)).cell 0;simp at V;have eg:=ad0;unfold lh at eg;have E:=aa (ahx x one h _ (Q.alloc (.cells (fd x) 183)) hx ho);have y:=aa (ap W (.cells (fd x) 183));have O:=aa (cg.new W 183 (fd x));have F:=aa (Q.alloc (.cells (fd x) 183));have I:=aa (ak.alloc (.cells (fd x) 183));have al:=aa (λ(U:ω)(hb:κ W U)(a b:Int)=>adx g a b C U (Z.below hb) hl Y);have J:Hid (aic C.ab one x=(clB x one&&!jc C.ab one.src x.src)):=aa rfl;generalize aic C.ab one x=R at *;generalize clB x one=cl at *;obtain⟨num,ax,left⟩:=x;obtain⟨av,a0,am⟩:=one;simp only at V y E O F I J;clear Z Y Q ad ak;cases cl with
 | false =>go_enter func204,ntmps204;go_wp2_with fail;refine E.mono ?_;rintro e w1⟨rfl,d⟩;have z:=aa (y.trans (d.mono y.size));clear d;go_wp2;go_ret;exact⟨az (by rw[J.out];rfl),z⟩
 | true =>go_enter func204,ntmps204;go_wp2_with fail;refine E.mono ?_;rintro e w1⟨rfl,d⟩;have z:=aa (y.trans (d.mono y.size));obtain⟨⟨x0,x1,x2⟩,-⟩:=(O.below d O.lt).ax;obtain⟨⟨y0,y1,y2⟩,-⟩:=(F.below d F.lt).ax;have z0:=(I.below d I.lt).cell 0;simp at z0;clear d;go_wp2_with fail;refine(al _ z _ _).mono ?_;rintro e w2⟨rfl,rfl⟩;go_wp2;go_ret;exact⟨az (by rw[J.out];rfl),z⟩
theorem asd(v:Value)(d:List nk)(i:Int)(w:ω)(F:afm w v d)(Q:d.length<=1000) :
 Calls prog 148 #[v,ι i] w λe U=>e=.returned (.bool (ak8 d i))/\κ w U:=by
 have y:=aa (ap w (.cells #[ι i] 3));have z:=aa (cg.new w 3 #[ι i]);have J:=aa (aeh 202 #[φ w.heap.size 0] (λk=>decide (k.num=i)) v d _ a5e (λW x _ O=>a09 x i w.heap.size W (z.below O z.lt)) (F.below y) Q);clear F;go_enter func148,ntmps148;go_wp2_with fail;refine J.mono ?_;rintro e V⟨rfl,E⟩;have I:=aa (y.trans (E.mono y.size));clear E;go_wp2;go_ret;exact⟨rfl,I⟩
theorem jd{a b c:ω}{row:Option Nat}(h:a.grownBy b row)(k:b.grownBy c row):a.grownBy c row :=
 ⟨k.os.trans h.os,k.tape.trans h.tape,k.output.trans h.output,a6 h.size k.size,λi d y=>(k.block i (c8 d h.size) y).trans (h.block i d y)⟩
theorem tw(w:ω)(g j:Nat)(u:Value):w.grownBy (w.setCell (δ g j) u) (some g) :=
 ⟨rfl,rfl,rfl,by simp,λi y d=>cz w (δ g j) u i (λh=>d (by rw[h]))⟩
theorem cg.kept{w d:ω}{g:Nat}{t:TypeId}{cs:Array Value}{row:Option Nat}(h:cg w g t cs)(y:w.grownBy d row)(z:some g≠row):cg d g t cs:=(y.block g h.lt z).trans h
theorem af7{g:Nat}{t:TypeId}:∀(vs:List Value)(o:Nat)(w:ω)(d:Array Value),cg w g t d->
 ∃y,cg (w.setCells g o vs) g t y/\y.size=d.size/\(∀q,q<o->y[q]?=d[q]?)/\w.grownBy (w.setCells g o vs) (some g)
 | [],o,w,d,h=>⟨d,h,rfl,λ_ _=>rfl,World.grownBy.refl _ _⟩
 | v::r,o,w,d,h=>by obtain ⟨y,z,E,F,I⟩:=af7 r (o+1) (w.setCell (δ g o) v) _ (h.ca o v);refine⟨y,z,by rw[E];simp,λq J=>?_,jd (tw w g o v) I⟩;rw[F q (by omega),da (by omega)]
theorem aki{P:Program}(w:ω)(t e ty:TypeId)(z:Value)(s:Nat)(U:P.underlying t=some (.slice e))(V:∀w,(zeroValue e).run P w=.ok z w)(W:z.cells.size=s)(Z:0<s)(I:∀v∈z.cells.toList,v.oneCell'=true)(b o n c:Nat)(Y:0<n)
 (J:∀j,j<n*s->(w.cell? (δ b (o+j))).isSome=true)(O:∀j,j<n*s->w.frozen? (δ b (o+j))=false) :
 (Builtin.clear_ #[t] ty #[.slice (some (δ b o)) n c]).run P w=.ok (.tuple #[]) (w.setCells b o (Builtin.zeroCells z.cells n).toList):=by
 have d:(Builtin.zeroCells z.cells n).toList.length=n*s:=by simp[Builtin.zeroCells,W]
 have Q:∀v∈(Builtin.zeroCells z.cells n).toList,v.oneCell'=true:=by intro v F;simp only[Builtin.zeroCells,Array.toList_map,gt]at F;obtain⟨i,_,rfl⟩:=F;refine I _ ?_;have y:i%z.cells.size<z.cells.size:=Nat.mod_lt _ (by omega);rw[getElem!_pos z.cells _ y];exact Array.getElem_mem_toList y
 have E:=run_storeCells_cells (P:=P) b o (Builtin.zeroCells z.cells n).toList 0 w (by rw[d];simpa using J) (by rw[d];simpa using O) Q;simp only[iy]at E;obtain⟨m,rfl⟩:∃m,n=m+1:=⟨n-1,by omega⟩;simp[Builtin.clear_,run_underlying U,V,E]
def abu(d:Array Value)(q:Nat)(c:nk):Prop:=d[q*3]?=some (ι c.num)/\d[q*3+1]?=some (ι c.src)/\d[q*3+2]?=some (.int .u32 (c.left:Int))
structure DSt (kept:List nk) (p:nk->Bool) (cap:Nat) (cur:Array Value) (i j:Nat):Prop where
 size:cur.size=cap*3
 lt:i<j
 len:((kept.take j).filter λc=>!p c).length=i
 front:∀q c,((kept.take j).filter λc=>!p c)[q]?=some c->abu cur q c
 back:∀q c,j<=q->kept[q]?=some c->abu cur q c
theorem ai6{y:List nk}{p:nk->Bool}{k:Nat}(h:∀j c,j<k->y[j]?=some c->p c=false):((y.take k).filter λc=>!p c)=y.take k:=by refine List.filter_eq_self.2 λc z=>?_;obtain⟨j,d⟩:=jp z;have E:=(bo.1 d).1;rw[jo]at E;rw[gn]at d;rw[ao (by omega)]at d;simp[h j c (by omega) d]
theorem ti{d:List nk}{p:nk->Bool}{j:Nat}{c:nk}(y:d[j]?=some c):((d.take (j+1)).filter λc=>!p c)=((d.take j).filter λc=>!p c)++if p c=true then [] else [c]:=by rw[List.take_add_one,y,oe];cases h:p c<;>simp[h]
theorem DSt.start{y:List nk}{p:nk->Bool}{cap:Nat}{z:Array Value}{k:Nat}{x:nk}(O:z.size=cap*3)(E:∀q c,y[q]?=some c->abu z q c)(I:y[k]?=some x)(J:p x=true)(h:∀j c,j<k->y[j]?=some c->p c=false):DSt y p cap z k (k+1):=by
 have Q:=(bo.1 I).1;have F:((y.take (k+1)).filter λc=>!p c)=y.take k:=by rw[ti I,ai6 h,ao J,dz]
 refine⟨O,by omega,by rw[F,jo];omega,λq c d=>?_,λq c _ d=>E q c d⟩;rw[F,gn]at d;split at d
 . exact E q c d
 . cases d
theorem DSt.skip{d:List nk}{p:nk->Bool}{cap i j:Nat}{z:Array Value}{x:nk}(h:DSt d p cap z i j)(I:d[j]?=some x)(F:p x=true):DSt d p cap z i (j+1):=by
 have E:((d.take (j+1)).filter λc=>!p c)=((d.take j).filter λc=>!p c):=by rw[ti I,ao F,dz]
 exact⟨h.size,by have:=h.lt;omega,by rw[E];exact h.len,λq c y=>h.front q c (by rwa [E]at y),λq c J y=>h.back q c (by omega) y⟩
abbrev ba5(d:Array Value)(i:Nat)(x:nk):Array Value:=((d.setIfInBounds (i*3) (ι x.num)).setIfInBounds (i*3+1) (ι x.src)).setIfInBounds (i*3+2) (.int .u32 (x.left:Int))
theorem akt{d:Array Value}{i q:Nat}{x c:nk}(h:abu d q c)(F:q≠i):abu (ba5 d i x) q c:=by obtain ⟨y,z,E⟩:=h;refine⟨?_,?_,?_⟩;all_goals rw[da (by omega),da (by omega),da (by omega)];assumption
theorem azz{d:Array Value}{i:Nat}{x:nk}(h:i*3+2<d.size):abu (ba5 d i x) i x:=by
 refine⟨?_,?_,?_⟩
 . rw[da (by omega),da (by omega),ep (by omega)]
 . rw[da (by omega),ep (by simp;omega)]
 . rw[ep (by simp;omega)]
theorem DSt.keep{y:List nk}{p:nk->Bool}{cap i j:Nat}{z:Array Value}{x:nk}(h:DSt y p cap z i j)(I:y[j]?=some x)(J:p x=false)(Q:y.length<=cap):DSt y p cap (ba5 z i x) (i+1) (j+1):=by
 have W:=(bo.1 I).1;have U:=h.lt;have E:((y.take (j+1)).filter λc=>!p c)=((y.take j).filter λc=>!p c) ++ [x]:=by rw[ti I,ah (by rw[J];simp)]
 refine⟨by simp[h.size],by omega,by rw[E,aw,h.len];rfl,λq c d=>?_,λq c V d=>akt (h.back q c (by omega) d) (by omega)⟩;rw[E]at d;by_cases O:q<i
 . rw[kg (by rw[h.len];exact O)]at d;exact akt (h.front q c d) (by omega)
 . have F:=(bo.1 d).1;rw[aw,h.len]at F;simp at F;obtain rfl:q=i:=(by omega);rw[ga (by rw[h.len];omega),h.len,Nat.sub_self]at d;simp at d;subst d;exact azz (by rw[h.size];omega)
theorem aox{w:ω}{B g cap:Nat}{d:Array Value}{K:List nk}(O:B<=g)(Y:cg w g 183 d)(Q:K.length<=cap)(W:cap<=maxLen)(hs:d.size=cap*3)(V:∀q c,K[q]?=some c->abu d q c) :
 w.ownsRow B 183 3 (.slice (some (δ g 0)) K.length cap) K.length (aai K):=by
 have Z:(aai K).length=K.length*3:=ac8 (cells:=lc) (n:=3) (λ_=>rfl) K;refine⟨Z,.inr ⟨g,cap,d,rfl,O,Y,Q,W,hs,?_⟩⟩;apply lr;intro t;rw[gn];by_cases z:t<K.length*3
 . rw[ao z];have E:=ae (show t<(aai K).length by omega);obtain⟨q,j,c,rfl,hq,y⟩:=ah0 (cells:=lc) (n:=3) (λ_=>rfl) K t _ E;obtain⟨F,I,J⟩:=V q c hq;have U:∀m,m<3->d[q*3+m]?=(lc c)[m]?:=λm hm=>by
    match m,hm with
    | 0,_=>exact F
    | 1,_=>exact I
    | 2,_=>exact J
   have:=U j (bo.1 y).1;rw[E,<-y,<-this];simp
 . rw[ah z,cn (by omega)]
theorem apx{w:ω}{B g n cap:Nat}{K:List nk}(h:w.ownsRow B 183 3 (.slice (some (δ g 0)) n cap) K.length (aai K)) :
 ∃d,B<=g/\n=K.length/\cg w g 183 d/\K.length<=cap/\cap<=maxLen/\d.size=cap*3/\∀q c,K[q]?=some c->abu d q c:=by
 rcases h.2 with ⟨Q,_⟩ | ⟨g',ad,d,U,V,Y,W,hm,hs,ht⟩
 . cases Q
 . injection U with z I J;injection z with z;injection z with O;subst O;subst J;have E:∀q c j u,K[q]?=some c->(lc c)[j]?=some u->d[q*3+j]?=some u:=λq c j u y F=>by have Z:=(bo.1 F).1;have ak:j<3:=Z;have al:=(bo.1 y).1;have:=aff (cells:=lc) (n:=3) (λ_=>rfl) K q c j u y F;rw[show K.flatMap lc=aai K from rfl,<-ht,gn,ao (by omega)]at this;rw[<-this];simp
   exact⟨d,V,I,Y,W,hm,hs,λq c y=>⟨E q c 0 _ y rfl,E q c 1 _ y rfl,E q c 2 _ y rfl⟩⟩
theorem bal(w:ω):(zeroValue 183).run prog w=.ok (.agg #[ι 0,ι 0,.int .u32 0]) w:=by kernel_rfl
theorem av6(g cap h B:Nat)(d:List nk)(one:nk)(w:ω)(J:w.ownsRow B 183 3 (.slice (some (δ g 0)) d.length cap) d.length (aai d))(hh:cg w h 183 (fd one))(a9:h≠g)(hl:d.length<=1000)
 (a5:∀c∈d,c.left<4294967296)(ho:one.left<4294967296) :
 Calls prog 205 #[.slice (some (δ g 0)) d.length cap,.func (.func 203) #[] #[φ h 0]] w λe w'=>w.grownBy w' (some g)/\e=.returned (.slice (some (δ g 0)) (d.filter λc=>!clB c one).length cap)/\
  w'.ownsRow B 183 3 (.slice (some (δ g 0)) (d.filter λc=>!clB c one).length cap) (d.filter λc=>!clB c one).length (aai (d.filter λc=>!clB c one)):=by
 obtain⟨y,hB,_,hg,b7,b9,hs,hc⟩:=apx J;have bk:=aa (λ(W:ω)(x:nk)(E:x∈d)(hW:cg W h 183 (fd one))=>ahx x one h W hW (a5 x E) ho);have HI:=aa (afb 203 #[φ h 0] (λc=>clB c one) _ d w ad0 (λW x E hb=>ahx x one h W (hh.below hb hh.lt) (a5 x E) ho) (vg J) hl);have eg:=ad0;unfold lh at eg;obtain⟨p,hp⟩:∃p:nk->Bool,p=λc=>clB c one:=⟨_,rfl⟩;have HP:Hid (∀c,clB c one=p c):=aa λc=>by rw[hp]
 have hK:(d.filter λc=>!clB c one)=d.filter λc=>!p c:=by rw[hp]
 rw[hK];rw[<-hp]at HI;have HR:=aa J;have HH:=aa hh;have F:=aa hg;have HC:=aa hc;have HS:=aa hs;clear J hh hg hc hs a5 hK hp;go_enter func205,ntmps205;go_wp2_with fail;refine HI.mono ?_;rintro e w1⟨a3,r,rfl,J⟩;have bb:=aa (gc a3 (some g));have ax:=aa a3;clear a3;rcases J with ⟨rfl,J⟩ | ⟨k,rfl,hk,E,hb⟩
 . have b5:Hid ((d.filter λc=>!p c)=d):=aa (List.filter_eq_self.2 λc hc=>by rw[gy]at J;simpa using J c hc);clear J;go_wp2;go_ret;rw[b5.out];exact⟨bb,rfl,bl HR ax⟩
 . have b8:((k:Int) == -1)=false:=fw (by omega);have Q:=aa (DSt.start (p:=p) HS HC (ae hk) (E _ (ae hk)) hb);have bt:=aa (F.below ax F.lt);have b3:=aa (HH.below ax HH.lt);clear E hb;go_wp2_with fail;go_loopw [5,6] (λiv jv wr=>∃(i j:Nat)(y:Array Value),j<=d.length/\i<j/\iv=ι (i:Int)/\jv=ι (j:Int)/\Hid (DSt d p cap y i j)/\Hid (cg wr g 183 y)/\Hid (w.grownBy wr (some g))/\Hid (cg wr h 183 (fd one))) (λ_ jv _=>d.length-(intOf jv).toNat)
   case atStart=>exact ⟨k,k+1,y,by omega,by omega,rfl,by go_num,Q,bt,bb,b3⟩
   case round =>
    clear b8;obtain⟨i,j,y,hj,cc,rfl,rfl,Q,F,ba,HH⟩:=hrel;obtain⟨O,rfl⟩:∃O:ω,O=wr:=⟨_,rfl⟩;by_cases bf:j<d.length
    . have E:=ae bf;obtain⟨e0,e1,e2⟩:=Q.back j _ (ai _) E;have d0:=(F.cell (j*3)).trans e0;have d1:=(F.cell (j*3+1)).trans e1;have d2:=(F.cell (j*3+2)).trans e2;have al:=bk.out (O.alloc (.cells (fd d[j]) 183)) d[j] (bw bf) (HH.alloc _);rw[HP.out]at al;generalize d[j]=x at *;have HX:=aa E;have V:=aa al;have ak:=aa (cg.new O 183 (fd x));have Y:=aa (F.alloc (.cells (fd x) 183));have Z:=aa (HH.alloc (.cells (fd x) 183));have ad:=aa (jd ba (World.grownBy_alloc O (.cells (fd x) 183) (some g)));cases z:p x with
      | true =>
       have a0:=aa (Q.skip E z);rw[z]at V;obtain⟨num,av,left⟩:=x;simp only at d0 d1 d2 V ak Y Z ad;clear E al z e0 e1 e2;go_wp2_with fail;refine V.mono ?_;rintro e w2⟨rfl,I⟩;have U:=aa (Y.below I Y.lt);have a2:=aa (Z.below I Z.lt);have a1:=aa (jd ad (gc I (some g)));clear I;go_wp2;go_roundw
       case rel=>exact ⟨i,j+1,y,by omega,by omega,rfl,by go_num,a0,U,a1,a2⟩
       case measure=>simp[intOf];omega
      | false =>
       have a0:=aa (Q.keep E z b7);have am:=Q.size;rw[z]at V;obtain⟨num,av,left⟩:=x;simp only at d0 d1 d2 V ak Y Z ad;clear E al z e0 e1 e2;go_wp2_with fail;refine V.mono ?_;rintro e w2⟨rfl,I⟩;obtain⟨⟨x0,x1,x2⟩,-⟩:=(ak.below I ak.lt).ax;have U:=aa (Y.below I Y.lt);have a2:=aa (Z.below I Z.lt);have a1:=aa (jd ad (gc I (some g)));have b2:=aa (((U.ca (i*3) (ι num)).ca (i*3+1) (ι av)).ca (i*3+2) (.int .u32 (left:Int)));have b4:=aa (((a2.kept (tw w2 g (i*3) (ι num)) (λh=>a9 (Option.some.inj h))).kept (tw _ g (i*3+1) (ι av)) (λh=>a9 (Option.some.inj h))).kept (tw _ g (i*3+2) (.int .u32 (left:Int))) (λh=>a9 (Option.some.inj h)));have b1:=aa (jd (jd (jd a1 (tw w2 g (i*3) (ι num))) (tw _ g (i*3+1) (ι av))) (tw _ g (i*3+2) (.int .u32 (left:Int))));have o0:=(U.cell (i*3)).trans (jb (show i*3<y.size by omega));have o1:=(U.cell (i*3+1)).trans (jb (show i*3+1<y.size by omega));have o2:=(U.cell (i*3+2)).trans (jb (show i*3+2<y.size by omega));have z0:=U.frozen (i*3);have z1:=U.frozen (i*3+1);have z2:=U.frozen (i*3+2);generalize y[i*3]'(by omega)=v0 at o0;generalize y[i*3+1]'(by omega)=v1 at o1;generalize y[i*3+2]'(by omega)=v2 at o2;clear I d0 d1 d2 am;go_wp2;go_roundw
       case rel=>exact ⟨i+1,j+1,_,by omega,by omega,by go_num,by go_num,a0,b2,b1,b4⟩
       case measure=>simp[intOf];omega
    . obtain rfl:j=d.length:=(by omega);have am:=Q.size;have a4:=Q.len;rw[ed]at a4;have bs:Hid (∀q c,(d.filter λc=>!p c)[q]?=some c->abu y q c):=aa λq c z=>Q.front q c (by rw[ed];exact z);have cb:∀ty,(Builtin.clear_ #[177] ty #[.slice (some (δ g (i*3))) (d.length-i) (cap-i)]).run prog O=.ok (.tuple #[]) (O.setCells g (i*3) (Builtin.zeroCells (Value.agg #[ι 0,ι 0,.int .u32 0]).cells (d.length-i)).toList) :=
       λty=>aki O 177 183 ty _ 3 underlying177 bal rfl (by decide) (λv hv=>by simp[Value.cells]at hv;rcases hv with rfl | rfl | rfl<;>rfl) g (i*3) _ _ (by omega)
        (λq z=>by rw[F.out.cell,jb (show i*3+q<y.size by omega)];rfl) (λq z=>F.frozen _)
      obtain⟨ca,h1,h2,h3,h4⟩:=af7 (Builtin.zeroCells (Value.agg #[ι 0,ι 0,.int .u32 0]).cells (d.length-i)).toList (i*3) O y F;have HF:=aa (aox (K:=d.filter λc=>!p c) hB h1 (by omega) b9 (by rw[h2,am]) (λq c z=>by have ci:=(bo.1 z).1;obtain⟨e0,e1,e2⟩:=bs.out q c z;exact⟨(h3 _ (by omega)).trans e0,(h3 _ (by omega)).trans e1,(h3 _ (by omega)).trans e2⟩));have b0:=aa (jd ba h4);generalize O.setCells g (i*3) (Builtin.zeroCells (Value.agg #[ι 0,ι 0,.int .u32 0]).cells (d.length-i)).toList=wz at *;have b6:=aa a4;clear h1 h2 h3 h4 am a4;go_wp2;go_ret;exact⟨b0,by rw[b6.out]<;>rfl,HF⟩
theorem Tryz.a6z:(Tryz.prog.info? 183).map (λi=>(i.zero,i.size,i.bytes))=some (some (.agg #[ι 0,ι 0,.int .u32 0]),3,24):=by kernel_rfl
theorem aon(F:Fn)(d:Array Value)(a:Addr)(m:Mode)(W:ω):(store a (.func F #[] d) m).run prog W=stored prog W a (.func F #[] d) m:=run_store prog W a _ m rfl
theorem azh(K:List nk)(x:nk):aai (K ++ [x])=aai K++lc x:=by simp[aai]
theorem ax5(x:nk):∀u∈lc x,u.oneCell'=true:=by intro u d;simp only[lc,ij,np,or_false]at d;rcases d with rfl | rfl | rfl<;>rfl
theorem a5o{w:ω}{g:Nat}{x:nk}(h:cg w g 183 (fd x)):∀j u,(lc x)[j]?=some u->w.cell? (((δ g 0):Addr).add j)=some u:=by
 intro j u d;rw[yu,j2,h.cell,<-d]
 match j with
 | 0=>rfl
 | 1=>rfl
 | 2=>rfl
 | j+3=>simp[lc]
theorem amr(v:Value)(h B:Nat)(y:List nk)(one:nk)(w:ω)(d:w.ownsRow B 183 3 v y.length (aai y))(F:cg w h 183 (fd one))(Q:∀g,v.ownBlock=some g->h≠g)(I:y.length<=1000)
 (J:∀c∈y,c.left<4294967296)(ho:one.left<4294967296) :
 Calls prog 205 #[v,.func (.func 203) #[] #[φ h 0]] w λe z=>w.grownBy z v.ownBlock/\∃v',e=.returned v'/\v'.ownBlock=v.ownBlock/\
  z.ownsRow B 183 3 v' (y.filter λc=>!clB c one).length (aai (y.filter λc=>!clB c one)):=by
 rcases d.2 with ⟨rfl,O⟩ | ⟨g,Y,ad,rfl,_⟩
 . obtain rfl:y=[]:=bh O;have V:=aa (afb 203 #[φ h 0] (λc=>clB c one) (.slice none 0 0) [] w ad0 (λW x hx hb=>by cases hx) (vg d) (by simp));clear d F Q I J O;go_enter func205,ntmps205;go_wp2_with fail;refine V.mono ?_;rintro e w1⟨E,r,rfl,d⟩;have U:=aa E;clear E;rcases d with ⟨rfl,d⟩ | ⟨k,rfl,hk,_⟩
   . clear d;go_wp2;go_ret;exact⟨gc U _,_,rfl,rfl,bd _ _ _ _⟩
   . simp at hk
 . refine(av6 g Y h B y one w d F (Q g rfl) I J ho).mono ?_;rintro e z⟨Z,rfl,h2⟩;exact⟨Z,_,rfl,rfl,h2⟩
theorem a4m(g B:Nat)(v:Value)(d:List nk)(one:nk)(C:Ch)(w:ω)(hT:fs w g C)(hl:C.ab.length<=1000)(hR:p8 C.ab)(hr:w.ownsRow B 183 3 v d.length (aai d))(hB:B<=w.heap.size)(hk:d.length<=900)
 (ba:∀c∈d,c.left<4294967296)(ho:one.left<4294967296) :
 Calls prog 149 #[φ g 0,v,ahz one] w λe w'=>w.grownBy w' v.ownBlock/\∃v',e=.returned v'/\w'.ownsRow B 183 3 v' (yq C.ab d one).length (aai (yq C.ab d one)):=by
 obtain⟨i0,HI,b9,ca,cb⟩:=ιp Tryz.a6z;have al:κ w (((w.alloc (.cells #[φ g 0] 28)).alloc (.cells (fd one) 183)).alloc (.cells #[.func (.func 203) #[] #[φ (w.heap.size+1) 0]] 226)):=(((ag w.heap.size w).alloc (ai _) _).alloc (by simp) _).alloc (by simp;omega) _;have a0:=aa al;have bt:cg (((w.alloc (.cells #[φ g 0] 28)).alloc (.cells (fd one) 183)).alloc (.cells #[.func (.func 203) #[] #[φ (w.heap.size+1) 0]] 226)) w.heap.size 28 #[φ g 0]:=((cg.new w 28 #[φ g 0]).alloc _).alloc _;have b1:cg (((w.alloc (.cells #[φ g 0] 28)).alloc (.cells (fd one) 183)).alloc (.cells #[.func (.func 203) #[] #[φ (w.heap.size+1) 0]] 226)) (w.heap.size+1) 183 (fd one):=(cg.dy (w.alloc (.cells #[φ g 0] 28)) 183 (fd one) (w.heap.size+1) (by simp)).alloc _;have bf:cg (((w.alloc (.cells #[φ g 0] 28)).alloc (.cells (fd one) 183)).alloc (.cells #[.func (.func 203) #[] #[φ (w.heap.size+1) 0]] 226)) (w.heap.size+1+1) 226 #[.func (.func 203) #[] #[φ (w.heap.size+1) 0]]:=cg.dy ((w.alloc (.cells #[φ g 0] 28)).alloc (.cells (fd one) 183)) 226 #[.func (.func 203) #[] #[φ (w.heap.size+1) 0]] (w.heap.size+1+1) (by simp);have bb:=aa b1;have bk:=aa bf;have b5:Hid (∀q,v.ownBlock=some q->q<w.heap.size):=aa λq hq=>(hr.lt q hq).2;have a1:=aa (aeh 204 #[φ (w.heap.size+1+1) 0,φ w.heap.size 0,φ (w.heap.size+1) 0] (aic C.ab one) v d (((w.alloc (.cells #[φ g 0] 28)).alloc (.cells (fd one) 183)).alloc (.cells #[.func (.func 203) #[] #[φ (w.heap.size+1) 0]] 226)) a5c
  (λW x hx hb=>ay6 g (w.heap.size+1) (w.heap.size+1+1) w.heap.size x one C W (hT.below (al.trans (hb.mono al.size))) hl hR (b1.below hb b1.lt) (bf.below hb bf.lt) (bt.below hb bt.lt) (ba x hx) ho) ((vg hr).below al) (by omega))
 have b8:=aa hr;have b0:=aa (λ(W:ω)(h:W.ownsRow B 183 3 v d.length (aai d))(h1:cg W (w.heap.size+1) 183 (fd one))=>amr v (w.heap.size+1) B d one W h h1 (λq hq=>by have:=b5.out q hq;omega) (by omega) ba ho);have b7:Hid (yq C.ab d one=if d.any (aic C.ab one)=true then d else d.filter (λk=>!clB k one) ++ [one]):=aa rfl;have ci:Hid ((d.filter λk=>!clB k one).length<=900):=aa (a6 (kj _ _) hk);have co:=λ(a:Addr)(m:Mode)(W:ω)=>aon (.func 203) #[φ (w.heap.size+1) 0] a m W;generalize yq C.ab d one=K at *;clear hT hR hr ba b1 bf bt al;cases Z:d.any (aic C.ab one) with
 | true =>have HK:Hid (K=d):=aa (by rw[b7.out,ao Z]);rw[Z]at a1;clear Z;go_enter func149,ntmps149;go_wp2_with fail;refine a1.mono ?_;rintro e Y⟨rfl,V⟩;have U:=aa (a0.trans (V.mono a0.size));clear V;go_wp2;go_ret;exact⟨gc U _,_,rfl,by rw[HK.out];exact bl b8 U⟩
 | false =>
  have HK:Hid (K=d.filter (λk=>!clB k one) ++ [one]):=aa (by rw[b7.out,ah (by rw[Z];simp)])
  rw[Z]at a1
  generalize (d.filter λk=>!clB k one)=K0 at *
  clear Z
  go_enter func149,ntmps149
  go_wp2_with fail
  refine a1.mono ?_
  rintro e Y⟨rfl,V⟩
  have U:=aa (a0.trans (V.mono a0.size))
  have y:=aa (cg.drew (bb.below V bb.lt))
  have ad:=aa (cg.drew (bk.below V bk.lt))
  have b6:=aa (bl (bl b8 U) (ag _ Y).drew)
  have b4:Hid (w.grownBy Y.drew v.ownBlock):=aa (gc U.drew _)
  have cc:B<=Y.drew.heap.size:=a6 hB U.drew.size
  have E:Hid (∀q,w.heap.size<=q->some q≠v.ownBlock):=aa λq hq h=>by have:=b5.out q h.symm;omega
  have cl:=ci.out
  clear V
  go_wp2_with fail
  refine cr (λW=>W.cell? (δ (w.heap.size+1+1) 0)=some (.func (.func 203) #[] #[φ (w.heap.size+1) 0])/\W.cell? (δ (w.heap.size+1) 0)=some (ι one.num)/\W.cell? (δ (w.heap.size+1) 1)=some (ι one.src)/\W.cell? (δ (w.heap.size+1) 2)=some (.int .u32 (one.left:Int))) [] ?_
  refine af 0 v ?_
  refine a7 1 (.func (.func 203) #[] #[φ (w.heap.size+1) 0]) (⟨ad.cell 0,y.cell 0,y.cell 1,y.cell 2⟩) ?_
  refine a7 3 (ahz one) (⟨ad.cell 0,y.cell 0,y.cell 1,y.cell 2⟩) ?_
  try simp only[Act.put,sx]
  refine t8 2 4 (λK J=>?orderA) (λK J=>?orderB)
  case' orderA =>
   go_simp
   refine(b0 _ b6 y).mono ?_
   rintro e w5⟨F,v5,rfl,av,am⟩
   have O:=aa av
   have a5:Hid (B<=(w5.alloc (.cells (fd one) 183)).heap.size):=aa (a6 cc (a6 F.size (by simp)))
   have bs:=aa (ad.kept F (E _ (by omega)))
   have a2:=aa (y.kept F (E _ (by omega)))
   have ak:=aa (bs.alloc (.cells (fd one) 183))
   have z:=aa (a2.alloc (.cells (fd one) 183))
   have a3:=aa (jd (jd b4 F) (World.grownBy_alloc w5 (.cells (fd one) 183) v.ownBlock))
   have a4:=aa (am.alloc (.cells (fd one) 183))
   have a9:=aa (cg.new w5 183 (fd one))
   clear av F am
   go_simp
   refine J _ _ (λ_ hS=>⟨bs.cell 0,a2.cell 0,a2.cell 1,a2.cell 2⟩) ?_
   try simp only[Act.put,sx]
   refine a8 4 (λK J=>?_)
   go_simp
   refine J _ _ (λ_ hS=>⟨ak.cell 0,z.cell 0,z.cell 1,z.cell 2⟩) ?_
   try simp only[Act.put,sx]
   refine a8 5 (λK J=>?_)
   refine kw _ _ 177 rfl B 183 i0 (.agg #[ι 0,ι 0,.int .u32 0]) 3 24 underlying177 HI b9 ca cb rfl (by decide) _ _ _ rfl a4 (δ w5.heap.size 0) 1 1 (lc one) rfl rfl (a5o a9) (ax5 one) (by unfold maxLen;omega) (by omega) (by have:=a5.out;omega) ?_
   intro v6 Q ax I _
   have b2:Hid (Q.ownsRow B 183 3 v6 K0.length.succ (aai K0++lc one)):=aa ax
   have b3:=aa (jd a3 (by rw[<-O.out];exact I))
   clear ax
   refine J _ _ (λ_ hS=>⟨(aa (ak.kept (by rw[<-O.out];exact I:World.grownBy _ Q v.ownBlock) (E _ (by omega)))).out.cell 0,(aa (z.kept (by rw[<-O.out];exact I:World.grownBy _ Q v.ownBlock) (E _ (by omega)))).out.cell 0,(aa (z.kept (by rw[<-O.out];exact I:World.grownBy _ Q v.ownBlock) (E _ (by omega)))).out.cell 1,(aa (z.kept (by rw[<-O.out];exact I:World.grownBy _ Q v.ownBlock) (E _ (by omega)))).out.cell 2⟩) ?_
   try simp only[Act.put,sx]
   refine af 6 v6 ?_
   try simp only[Act.put,sx]
   refine ce ?_
  case' orderB =>
   go_simp
   refine J _ _ (λ_ hS=>⟨(aa (ad.alloc (.cells (fd one) 183))).out.cell 0,(aa (y.alloc (.cells (fd one) 183))).out.cell 0,(aa (y.alloc (.cells (fd one) 183))).out.cell 1,(aa (y.alloc (.cells (fd one) 183))).out.cell 2⟩) ?_
   try simp only[Act.put,sx]
   refine a8 2 (λK J=>?_)
   go_simp
   refine(b0 _ (b6.alloc (.cells (fd one) 183)) (y.alloc (.cells (fd one) 183))).mono ?_
   rintro e w5⟨F,v5,rfl,av,am⟩
   have O:=aa av
   have a5:Hid (B<=w5.heap.size):=aa (a6 cc (a6 (by simp) F.size))
   have ak:=aa ((ad.alloc (.cells (fd one) 183)).kept F (E _ (by omega)))
   have z:=aa ((y.alloc (.cells (fd one) 183)).kept F (E _ (by omega)))
   have a3:=aa (jd (jd b4 (World.grownBy_alloc Y.drew (.cells (fd one) 183) v.ownBlock)) F)
   have a4:=aa am
   have a9:=aa ((cg.new Y.drew 183 (fd one)).kept F (E _ U.drew.size))
   clear av F am
   go_simp
   refine J _ _ (λ_ hS=>⟨ak.cell 0,z.cell 0,z.cell 1,z.cell 2⟩) ?_
   try simp only[Act.put,sx]
   refine a8 5 (λK J=>?_)
   refine kw _ _ 177 rfl B 183 i0 (.agg #[ι 0,ι 0,.int .u32 0]) 3 24 underlying177 HI b9 ca cb rfl (by decide) _ _ _ rfl a4 (δ Y.drew.heap.size 0) 1 1 (lc one) rfl rfl (a5o a9) (ax5 one) (by unfold maxLen;omega) (by omega) (by have:=a5.out;omega) ?_
   intro v6 Q ax I _
   have b2:Hid (Q.ownsRow B 183 3 v6 K0.length.succ (aai K0++lc one)):=aa ax
   have b3:=aa (jd a3 (by rw[<-O.out];exact I))
   clear ax
   refine J _ _ (λ_ hS=>⟨(aa (ak.kept (by rw[<-O.out];exact I:World.grownBy _ Q v.ownBlock) (E _ (by omega)))).out.cell 0,(aa (z.kept (by rw[<-O.out];exact I:World.grownBy _ Q v.ownBlock) (E _ (by omega)))).out.cell 0,(aa (z.kept (by rw[<-O.out];exact I:World.grownBy _ Q v.ownBlock) (E _ (by omega)))).out.cell 1,(aa (z.kept (by rw[<-O.out];exact I:World.grownBy _ Q v.ownBlock) (E _ (by omega)))).out.cell 2⟩) ?_
   try simp only[Act.put,sx]
   refine af 6 v6 ?_
   try simp only[Act.put,sx]
   refine ce ?_
  all_goals (
   clear I
   go_wp2
   go_ret
   exact⟨b3,_,rfl,by rw[HK.out,azh,aw];exact b2⟩)
def zj(K:List nk):List Int:=K.map λc=>c.num
theorem a24(C:Ch)(y:Int->Nat)(F:∀i,y i<4294967296){d:List nk}(h:∀c∈d,c.left<4294967296)(i:Int):∀c∈yq C.ab d (aat C y i),c.left<4294967296:=λc E=>by
 rcases ask C E with z | rfl
 . exact h c z
 . exact F i
theorem a22(g n:Nat)(vl:Value)(l:List Int)(C:Ch)(w:ω)(hT:fs w g C)(hF:fewB C=true)(bf:l1 C.ab)(hR:p8 C.ab)(hn:n<4294967296)(hv:dd w vl l)(f1:l.length<=800) :
 Calls prog 82 #[φ g 0,.int .u32 (n:Int),vl] w (ab0 (zj (siL C (leftN C n) l)) w):=by
 obtain⟨i0,E,co,cv,c7⟩:=info_parts Tryz.info3;have HI:=aa E;have ev:=aa co;have ex:=aa cv;have e0:=aa c7;have fu:=bf.len;have fv:C.ay.length<=60:=(fx hF).2.1;have ds:=aa (ali g C w hT hF);have d6:=aa (λ(W:ω)(h:κ w W)(i:Int)=>ary g n i C W (hT.below h) hF bf hR hn);have d3:=aa (λ(B:Nat)(v:Value)(d:List nk)(one:nk)(W:ω)(h:κ w W)(hr:W.ownsRow B 183 3 v d.length (aai d))(hB:B<=W.heap.size)(hk:d.length<=900) bb ho=>a4m g B v d one C W (hT.below h) (by omega) hR hr hB hk bb ho);have e8:=aa hv;obtain⟨lA,f5,rfl,f0,he⟩:=hv;have HE:=aa he;obtain⟨X,hX⟩:∃X,X=siL C (leftN C n) l:=⟨_,rfl⟩;rw[<-hX];have HX:Hid (X=l.foldl (m4 C (leftN C n)) []):=aa hX;clear E co cv c7 hT hF bf hR he hX;go_enter func82,ntmps82;go_wp2_with fail;refine ds.mono ?_;rintro e U⟨b2,vt,rfl,a9⟩;have F:=aa b2;have er:=aa a9;obtain⟨tA,a0,rfl,f3⟩:=br.slice a9;have d5:=aa (λ(W:ω)(h:κ U W)(i:Int)=>d6 W (F.trans (h.mono F.size)) i);have dy:=aa (λ(v:Value)(d:List nk)(one:nk)(W:ω)(h:κ U W) hr hk bb ho=>d3 U.heap.size v d one W (F.trans (h.mono F.size)) hr h.size hk bb ho);clear b2 a9;go_wp2_with fail;go_loopw [8,18] (λv i wr=>∃(k:Nat)(d:List nk),k<=l.length/\d.length<=k/\i=ι (k:Int)/\Hid (X=(l.drop k).foldl (m4 C (leftN C n)) d)/\Hid (∀c∈d,c.left<4294967296)/\κ U wr/\Hid (wr.ownsRow U.heap.size 183 3 v d.length (aai d))) (λ_ i _=>l.length-(intOf i).toNat)
 case atStart=>exact ⟨0,[],ar _,ar _,rfl,HX,aa (λc hc=>by cases hc),ag _ _,aa (bd _ _ _ _)⟩
 case round =>
  obtain⟨k,d,hk,fn,rfl,HX,av,y,Z⟩:=hrel;obtain⟨z,rfl⟩:∃z:ω,z=wr:=⟨_,rfl⟩;have V:=aa y;by_cases b9:k<l.length
  . obtain⟨lb,lo,rfl,e5,b8⟩:=HE.out k _ (ae b9);have c0:z.cell? (δ lb (lo+k))=some (ι l[k]):=(by have:=d7.keeps w z lb _ _ (F.trans (y.mono F.size)) e5 b8;rwa [bq]at this);have Y:Hid (X=(l.drop (k+1)).foldl (m4 C (leftN C n)) (m4 C (leftN C n) d l[k])):=aa (HX.trans (nf _ l k b9 _));generalize l[k]=i at *;clear b8 y;cases E:s7 C.ay i with
    | false =>
     have am:=aa E;have O:Hid (X=(l.drop (k+1)).foldl (m4 C (leftN C n)) d):=aa (by rw[Y.out];unfold m4;rw[ah (λh=>by rw[h.1]at E;cases E)]);clear E;go_wp2_with fail;refine(ac3 tA C.ay a0 i z (by omega)).mono ?_;rintro e w2⟨rfl,rfl⟩;rw[am.out];go_wp2;go_roundw
     case rel=>exact ⟨k+1,d,by omega,by omega,by go_num,O,av,V,Z⟩
     case measure=>simp[intOf];omega
    | true =>
     have am:=aa E
     have ad:=aa (asd u8 d i z (vg Z.out) (by omega))
     cases I:ak8 d i with
     | true =>
      rw[I]at ad
      have O:Hid (X=(l.drop (k+1)).foldl (m4 C (leftN C n)) d):=aa (by rw[Y.out];unfold m4;rw[ah (λh=>by rw[h.2]at I;cases I)])
      clear E I
      go_wp2_with fail
      refine(ac3 tA C.ay a0 i z (by omega)).mono ?_
      rintro e w2⟨rfl,rfl⟩
      rw[am.out]
      go_wp2_with fail
      refine ad.mono ?_
      rintro e w3⟨rfl,J⟩
      have a1:=aa (V.trans (J.mono V.size))
      have ek:=aa (bl Z.out J)
      clear J
      go_wp2
      go_roundw
      case rel=>exact ⟨k+1,d,by omega,by omega,by go_num,O,av,a1,ek⟩
      case measure=>simp[intOf];omega
     | false =>
      rw[I]at ad
      have O:Hid (X=(l.drop (k+1)).foldl (m4 C (leftN C n)) (yq C.ab d (aat C (leftN C n) i))):=aa (by rw[Y.out];unfold m4;rw[ao ⟨E,I⟩])
      have bt:=aa (a24 C (leftN C n) (λi=>ac0 C n i) av i)
      have bs:=aa (asl C d (aat C (leftN C n) i))
      obtain⟨q,rfl,hq⟩:=yo E
      obtain⟨b,o,e9,wt,wa,e6,_,e2,cl,_⟩:=er.at_ hq
      injection e6 with e1 _ e3
      subst e1;subst e3
      have b3:aat C (leftN C n) (q:Int)=⟨(q:Int),(es C.ay (q:Int)).src,leftN C n (q:Int)⟩:=rfl
      rw[b3]at O bt bs
      have ci:=cl.1
      generalize (es C.ay (q:Int)).src=Q at *
      have a5:Hid (∀W,κ U W->W.cell? (δ b (o+q*6))=some (ι Q)):=aa λW h=>(h.cell (p:=(δ b _)) e2).trans ci
      clear E I cl ci b3
      go_wp2_with fail
      refine(ac3 _ C.ay a0 (q:Int) z (by omega)).mono ?_
      rintro e w2⟨rfl,rfl⟩
      rw[am.out]
      go_wp2_with fail
      refine ad.mono ?_
      rintro e w3⟨rfl,J⟩
      have a1:=aa (V.trans (J.mono V.size))
      have al:=aa a1.drew
      have el:=aa (bl (bl Z.out J) (ag _ w3).drew)
      clear J c0
      go_wp2_with fail
      refine cr (λW=>W.cell? (δ b (o+q*6))=some (ι Q)) [] ?_
      refine af 0 (φ g 0) ?_
      refine af 1 u8 ?_
      refine af 2 (ι (q:Int)) ?_
      refine af 3 (.slice (some (δ b o)) C.ay.length a0) ?_
      refine af 4 (ι (q:Int)) ?_
      refine af 5 (φ b (o+q*6)) ?_
      refine af 6 (φ b (o+q*6)) ?_
      try simp only[Act.put,sx]
      refine aaw (i:=7) (v:=ι Q) rfl (by kernel_rfl) (by kernel_rfl) (by kernel_rfl) (by kernel_rfl) (λ_ _ _ h=>h) (Or.inl ⟨by kernel_rfl,λw hS=>by go_simp⟩) (a5 _ al) ?_
      try simp only[Act.put,sx]
      refine af 8 (φ g 0) ?_
      refine af 9 (.int .u32 (n:Int)) ?_
      refine af 10 (ι (q:Int)) ?_
      try simp only[Act.put,sx]
      refine a8 11 (λK HK=>?_)
      go_simp
      refine(d5 _ al (q:Int)).mono ?_
      rintro e w4⟨rfl,ba⟩
      have ak:=aa (al.trans (ba.mono al.size))
      have b0:=aa (bl el ba)
      clear ba
      go_simp
      refine HK _ _ (λ_ hS=>a5 _ ak) ?_
      try simp only[Act.put,sx]
      refine af 12 (.agg #[ι (q:Int),ι Q,.int .u32 ((leftN C n (q:Int):Nat):Int)]) ?_
      try simp only[Act.put,sx]
      refine a8 13 (λK HK=>?_)
      go_simp
      refine(dy u8 d ⟨(q:Int),Q,leftN C n (q:Int)⟩ _ ak b0 (by omega) av (ac0 C n (q:Int))).mono ?_
      rintro e w5⟨b4,v5,rfl,cb⟩
      have bk:=aa (ck ak b4 ak.size (λb y=>(b0.lt b y).1))
      have eg:=aa cb
      clear b4 cb
      go_simp
      refine HK _ _ (λ_ hS=>a5 _ bk) ?_
      try simp only[Act.put,sx]
      refine af 14 v5 ?_
      try simp only[Act.put,sx]
      refine ce ?_
      go_wp2
      go_roundw
      case rel=>exact ⟨k+1,_,by omega,a6 bs (by omega),by go_num,O,bt,bk,eg⟩
      case measure=>simp[intOf];omega
  . obtain rfl:k=l.length:=(by omega);have Y:Hid (X=d):=aa (by rw[HX.out,bz,dv]);obtain⟨kA,f4,e7,fg,b7⟩:=vg Z.out;subst e7;have d4:=aa b7;have a3:=aa (F.trans (y.mono F.size));clear b7 y;go_wp2_with fail;go_loopw [11,48] (λv i wr=>∃m:Nat,m<=d.length/\i=ι (m:Int)/\κ z wr/\Hid (wr.ownsRow z.heap.size 3 1 v (zj (d.take m)).length (bg (zj (d.take m))))) (λ_ i _=>d.length-(intOf i).toNat)
    case atStart=>exact ⟨0,ar _,rfl,ag _ _,aa (bd _ _ _ _)⟩
    case round =>
     obtain⟨m,hm,rfl,y,ax⟩:=hrel;obtain⟨wp,rfl⟩:∃wp:ω,wp=wr:=⟨_,rfl⟩;have db:=aa y;by_cases ca:m<d.length
     . obtain⟨kb,ko,rfl,e4,b6⟩:=d4.out m _ (ae ca);obtain⟨d0,d1,d2⟩:=amd.keeps z wp kb _ _ y e4 b6;have b1:Hid (zj (d.take (m+1))=zj (d.take m) ++ [d[m].num]):=aa (by unfold zj;rw[cp ca,ik];rfl);have f2:(zj (d.take m)).length<=800:=(by unfold zj;rw[dm,jo];omega);have fa:z.heap.size<=wp.heap.size:=y.size;have a2:=aa (y.alloc y.size (.cells (fd d[m]) 183));have a4:=aa (ax.out.alloc (.cells (fd d[m]) 183));generalize d[m]=x at *;generalize zj (d.take m)=G at *;obtain⟨num,Q,left⟩:=x;simp only at d0 d1 d2 b1 a2 a4;clear b6 y ax;go_wp2_with (at_builtin;refine wpList_append_own_at _ rfl _ _ 36 rfl (z.heap.size) 3 i0 (ι 0) 1 8 underlying36 HI ev ex e0 rfl (by decide) _ _ _ rfl (a4.alloc _) (δ (wp.heap.size+1) 0) 1 1 [ι num] rfl rfl ?c1 ?c2 ?c3 ?c4 ?c5 ?_)
       case c1=>exact g8 _ _ _ _ (by simp)
       case c2=>exact fl _
       case c3=>unfold maxLen;omega
       case c4=>omega
       case c5=>simp;omega
       intro v' w5 cc b5 _ _;have HG:=aa (ck (a2.alloc a2.size _) b5 (by simp;omega) (λg hg=>by have:=(a4.lt g hg).1;simpa using this));have eb:=aa cc;clear cc b5;go_wp2;go_roundw
       case rel=>exact ⟨m+1,by omega,by go_num,HG,aa (by rw[b1.out,dp];simpa using eb.out)⟩
       case measure=>simp[intOf];omega
     . obtain rfl:m=d.length:=(by omega);rw[ed]at ax;go_wp2;go_ret;exact⟨a3.trans (db.mono a3.size),_,rfl,by rw[Y.out];exact fp ax.out a3.size⟩
theorem ae2(o:Ou):∀u∈ft o,u.oneCell'=true:=by intro u d;simp only[ft,ij,np,or_false]at d;rcases d with rfl | rfl | rfl | rfl<;>rfl
theorem qi(x:Int):∀u∈ [Value.int .i64 x],u.oneCell'=true:=by intro u d;rw[cf.1 d];rfl
theorem ahr(W:ω)(o:Ou)(p:Nat)(d:W.heap.size=p):∀j u,(ft o)[j]?=some u->(W.alloc (.cells #[ι o.kind,ι o.ev,ι o.dl,ι o.to] 73)).cell? (((δ p 0):Addr).add j)=some u:=by subst d;exact World.news_of_block (cs:=#[ι o.kind,ι o.ev,ι o.dl,ι o.to]) (t:=73) (fr:=(0,0)) (heap_alloc_new W _)
theorem vv(W:ω)(x:Int)(p:Nat)(d:W.heap.size=p):∀j u,[Value.int .i64 x][j]?=some u->(W.alloc (.cells #[ι x] 3)).cell? (((δ p 0):Addr).add j)=some u:=by subst d;exact World.news_of_block (cs:=#[ι x]) (t:=3) (fr:=(0,0)) (heap_alloc_new W _)
theorem ec{w d:ω}{B g:Nat}{e t:TypeId}{s n:Nat}{v:Value}{xs:List Value}{cs:Array Value}(h:cg w g t cs)(E:w.ownsRow B e s v n xs)(y:e≠t)(z:w.grownBy d v.ownBlock):cg d g t cs :=
 h.grown z (j1 (m5 E h y))
theorem ew{B g:Nat}{w d y:ω}{v:Value}{e:TypeId}{s n:Nat}{xs:List Value}(h:Below B w d)(I:d.ownsRow B e s v n xs)(z:B<=d.heap.size)(E:d.grownBy y v.ownBlock):Below B w y :=
 h.grown E z (λk F=>(I.lt k F).1)
theorem amp(B g:Nat)(F J I:Value)(X:Ds)(a:Ac)(n:Int)(w:ω)(d:lk B g w F J I X)(W:X.env.length<=1000)(y:a.kind=1) :
 Calls prog 262 #[φ g 0,tc a,ι n] w (kf B g (doK a n X).isSome ((doK a n X).getD X) w):=by
 have Q:=aa ((ag B w).alloc d.lt (fk a));have O:=aa (awg B g F J I X a n _ (d.below (ap w (fk a))) W y);generalize (doK a n X).isSome=r at *;generalize (doK a n X).getD X=Y at *;obtain⟨kd,an,Z,ex⟩:=a;simp only at y;subst y;clear d;go_enter func262,ntmps262;go_wp2_with fail;refine O.mono ?_;rintro e w1⟨rfl,z,ad,al,ak,E⟩;have U:=aa (Q.trans z);have V:=aa E;clear z E;go_wp2;go_ret;exact .of rfl rfl U V
theorem atg(B g:Nat)(ve vo vi:Value)(X:Ds)(an d:Int)(E:ByteArray)(n:Int)(w:ω)(V:lk B g w ve vo vi X)(bb:X.out.length<=1000) :
 Calls prog 262 #[φ g 0,tc ⟨3,an,d,E⟩,ι n] w (kf B g true ⟨X.env,X.out ++ [⟨3,an,d,n⟩],X.ins⟩ w):=by
 obtain⟨i0,HI,a4,a5,a9⟩:=ιp Tryz.zz;have I:=V.below (ap w (fk ⟨3,an,d,E⟩));have O:=cg.new w 92 #[ι 3,ι an,ι d,.string E];have ad:=(ag B w).alloc V.lt (fk ⟨3,an,d,E⟩);obtain⟨⟨c0,U,c2⟩,f0,f1,f2⟩:=I.blk.ax;obtain⟨⟨q0,Z,q2,q3⟩,_⟩:=O.four;have z:=aa ((I.below (ap _ (.cells #[ι 3,ι an,ι d,ι n] 73))).drew);have ak:=aa ((O.alloc (.cells #[ι 3,ι an,ι d,ι n] 73)).drew);have ax:=aa ((ad.alloc I.lt (.cells #[ι 3,ι an,ι d,ι n] 73)).drew);have J:=aa z.out.out;have av:=aa z.out.lt;have Q:=aa (And.intro z.out.blk.ax.1.2.1 ak.out.four.1);have a3:=aa (ahr (w.alloc (fk ⟨3,an,d,E⟩)) ⟨3,an,d,n⟩ (w.heap.size+1) (by simp));clear V I O ad;go_enter func262,ntmps262;go_wp2_with fail;refine cr (λW=>W.cell? (δ g 1)=some vo/\W.cell? (δ w.heap.size 1)=some (ι an)/\W.cell? (δ w.heap.size 2)=some (ι d)) [15] ?_;refine af 0 (φ g 0) ?_;refine af 1 (φ g 0) ?_;refine af 2 (φ g 0) ?_;refine af 3 (φ g 1) ?_;refine a7 4 vo (⟨U,Z,q2⟩) ?_;refine af 5 (φ w.heap.size 1) ?_;refine a7 6 (ι an) (⟨U,Z,q2⟩) ?_;refine af 7 (φ w.heap.size 2) ?_;refine a7 8 (ι d) (⟨U,Z,q2⟩) ?_;refine af 9 (ι n) ?_;refine af 10 (.agg #[ι 3,ι an,ι d,ι n]) ?_;try simp only[Act.put,sx]
 refine a8 11 (λK y=>?_);go_simp;refine y.out _ _ (λ_ hS=>?_) ?_
 . exact⟨Q.out.1,Q.out.2.2.1,Q.out.2.2.2.1⟩
 clear y K;try simp only[Act.put,sx]
 refine a8 12 (λK y=>?_);refine kw _ _ 39 rfl B 73 i0 (.agg #[ι 0,ι 0,ι 0,ι 0]) 4 32 underlying39 HI.out a4.out a5.out a9.out rfl (by decide) _ _ _ rfl J.out (δ (w.heap.size+1) 0) 1 1 (ft ⟨3,an,d,n⟩) rfl rfl a3.out (ae2 _) (by unfold maxLen;omega) (by omega) av.out ?_;intro v3 w3 Y F _;obtain⟨g3,ba,rfl⟩:=ky Y;have a2:=aa (z.out.adl (o:=⟨3,an,d,n⟩) F Y);have a0:=aa ((ew (g:=g) ax.out J.out av.out F).setCell (p:=(δ g 1)) z.out.ge (.slice (some (δ g3 0)) (X.out.length+1) ba));have a1:=aa (ec z.out.blk J.out (by decide) F);have al:=aa (ec ak.out J.out (by decide) F);obtain⟨⟨d0,d1,d2⟩,e0,e1,e2⟩:=a1.out.ax;clear Y F;refine y.out _ _ (λ_ hS=>?_) ?_
 . exact⟨d1,al.out.four.1.2.1,al.out.four.1.2.2.1⟩
 clear y K;try simp only[Act.put,sx]
 refine af 13 (φ g 0) ?_;refine af 14 (φ g 1) ?_;try simp only[Act.put,sx]
 refine a8 15 (λK y=>?_);go_simp;refine y.out _ _ (λh=>absurd h (by decide)) ?_;clear y K;try simp only[Act.put,sx]
 refine ce ?_;go_wp2;go_ret;exact .of rfl rfl a0.out a2.out
theorem av5(B g:Nat)(ve vo vi:Value)(X:Ds)(an z:Int)(E:ByteArray)(n:Int)(w:ω)(J:lk B g w ve vo vi X)(a0:X.out.length<=1000) :
 Calls prog 262 #[φ g 0,tc ⟨5,an,z,E⟩,ι n] w (kf B g true ⟨X.env,X.out ++ [⟨5,0,0,n⟩],X.ins⟩ w):=by
 obtain⟨i0,HI,ak,al,av⟩:=ιp Tryz.zz;have y:=J.below (ap w (fk ⟨5,an,z,E⟩));have Q:=(ag B w).alloc J.lt (fk ⟨5,an,z,E⟩);obtain⟨⟨c0,c1,c2⟩,f0,f1,f2⟩:=y.blk.ax;have d:=aa (y.below (ap _ (.cells #[ι 5,ι 0,ι 0,ι n] 73)));have V:=aa (Q.alloc y.lt (.cells #[ι 5,ι 0,ι 0,ι n] 73));have I:=aa d.out.out;have U:=aa d.out.lt;have ad:=aa (ahr (w.alloc (fk ⟨5,an,z,E⟩)) ⟨5,0,0,n⟩ (w.heap.size+1) (by simp));clear J y Q;go_enter func262,ntmps262;go_wp2_with (at_builtin;refine wpList_append_own_at _ rfl _ _ 39 rfl B 73 i0 (.agg #[ι 0,ι 0,ι 0,ι 0]) 4 32 underlying39 HI.out ak.out al.out av.out rfl (by decide) _ _ _ rfl I.out (δ (w.heap.size+1) 0) 1 1 (ft ⟨5,0,0,n⟩) rfl rfl ad.out (ae2 _) ?c3 ?c4 U.out ?_)
 case c3=>unfold maxLen;omega
 case c4=>omega
 intro v3 w3 O F _ _;obtain⟨g3,ax,rfl⟩:=ky O;have Z:=aa (d.out.adl (o:=⟨5,0,0,n⟩) F O);have W:=aa ((ew (g:=g) V.out I.out U.out F).setCell (p:=(δ g 1)) d.out.ge (.slice (some (δ g3 0)) (X.out.length+1) ax));have Y:=aa (ec d.out.blk I.out (by decide) F);obtain⟨⟨d0,d1,d2⟩,e0,e1,e2⟩:=Y.out.ax;clear O F;go_wp2;go_ret;exact .of rfl rfl W.out Z.out
theorem afe(B g:Nat)(y E z:Value)(X:Ds)(a:Ac)(n:Int)(w:ω)(O:lk B g w y E z X)(U:X.env.length<=1000)(Q:X.out.length<=1000)(d:a.kind=1\/a.kind=3\/a.kind=5) :
 Calls prog 262 #[φ g 0,tc a,ι n] w (kf B g (doK a n X).isSome ((doK a n X).getD X) w):=by
 rcases d with d | d | d
 . exact amp B g y E z X a n w O U d
 . obtain⟨V,I,F,J⟩:=a;simp only at d;subst d;exact atg B g y E z X I F J n w O Q
 . obtain⟨V,I,F,J⟩:=a;simp only at d;subst d;exact av5 B g y E z X I F J n w O Q
theorem abm(w:ω):(binOp .eql 30 .nilIface .nilIface).run prog w=.ok (.bool true) w:=by kernel_rfl
theorem aiu(p:Value)(w:ω):(binOp .eql 30 (.iface 93 p) .nilIface).run prog w=.ok (.bool false) w:=by kernel_rfl
theorem asy(p:Value)(w:ω):(binOp .eql 30 (.iface 95 p) .nilIface).run prog w=.ok (.bool false) w:=by kernel_rfl
def a6g(v:Vl)(w:ω)(e:Ending)(d:ω):Prop :=
 κ w d/\match v with
  | .ok k n=>e=.returned (.tuple #[.agg #[ι k,ι n],.nilIface])
  | .bad _=>∃t p,e=.returned (.tuple #[.agg #[ι 0,ι 0],.iface t p])/\∀W,(binOp .eql 30 (.iface t p) .nilIface).run prog W=.ok (.bool false) W
theorem we{a:Ans}{env:List Int}{w y:ω}{e:Ending}(h:a6k a env w e y):a6g (sb a env) w e y:=by
 cases a with
 | toks o =>
  unfold a6k ael at h
  obtain⟨d,h⟩:=h
  unfold a6g sb
  simp only
  generalize ans ⟨false,env,0⟩ o=v at *
  cases v with
  | ok k n=>exact ⟨d,h⟩
  | bad c=>exact ⟨d,_,_,h,λW=>aiu _ W⟩
 | form k =>obtain ⟨d,g,z,_⟩:=h;exact⟨d,_,_,z,λW=>asy _ W⟩
 | large=>exact ⟨h.1,_,_,h.2,λW=>aiu _ W⟩
theorem a5i(B g:Nat)(Q V U:Value)(X:Ds)(a:Ac)(w:ω)(d:lk B g w Q V U X)(y:¬a.kind=1)(z:¬a.kind=2)(E:¬a.kind=3)(F:¬a.kind=4)(I:¬a.kind=5) :
 Calls prog 215 #[φ g 0,tc a] w (kf B g true X w):=by
 have J:=aa ((ag B w).alloc d.lt (fk a));have O:=aa (d.below (ap w (fk a)));have W:(a.kind==1)=false:=by simpa using y
 have Y:(a.kind==2)=false:=by simpa using z
 have Z:(a.kind==3)=false:=by simpa using E
 have e4:(a.kind==4)=false:=by simpa using F
 have e5:(a.kind==5)=false:=by simpa using I
 clear d y z E F I;go_enter func215,ntmps215;go_wp2;go_ret;exact .of rfl rfl J O
theorem a5h(B g:Nat)(ve vo U:Value)(X:Ds)(an z:Int)(E:ByteArray)(w:ω)(O:lk B g w ve vo U X)(ba:X.ins.length<=1000) :
 Calls prog 215 #[φ g 0,tc ⟨2,an,z,E⟩] w (kf B g true ⟨X.env,X.out,X.ins ++ [an]⟩ w):=by
 obtain⟨i0,HI,a3,a4,a5⟩:=ιp Tryz.info3;have J:=O.below (ap w (fk ⟨2,an,z,E⟩));have V:=cg.new w 92 #[ι 2,ι an,ι z,.string E];have ak:=(ag B w).alloc O.lt (fk ⟨2,an,z,E⟩);obtain⟨⟨c0,c1,c2⟩,f0,f1,f2⟩:=J.blk.ax;obtain⟨⟨q0,q1,q2,q3⟩,_⟩:=V.four;have d:=aa ((J.below (ap _ (.cells #[ι an] 3))).drew);have Y:=aa ((V.alloc (.cells #[ι an] 3)).drew);have al:=aa ((ak.alloc J.lt (.cells #[ι an] 3)).drew);have I:=aa d.ins;have ad:=aa d.lt;have Z:=aa (And.intro d.blk.ax.1.2.2 Y.four.1);have a2:=aa (vv (w.alloc (fk ⟨2,an,z,E⟩)) an (w.heap.size+1) (by simp));clear O;go_enter func215,ntmps215;go_wp2_with fail;refine cr (λW=>W.cell? (δ g 2)=some U/\W.cell? (δ w.heap.size 1)=some (ι an)) [11] ?_;refine af 0 (φ g 0) ?_;refine af 1 (φ g 0) ?_;refine af 2 (φ g 0) ?_;refine af 3 (φ g 2) ?_;refine a7 4 U (⟨c2,q1⟩) ?_;refine af 5 (φ w.heap.size 1) ?_;refine a7 6 (ι an) (⟨c2,q1⟩) ?_;try simp only[Act.put,sx]
 refine a8 7 (λK y=>?_);go_simp;refine y _ _ (λ_ hS=>?_) ?_
 . exact⟨Z.1,Z.2.2.1⟩
 try simp only[Act.put,sx]
 refine a8 8 (λK y=>?_);refine kw _ _ 36 rfl B 3 i0 (ι 0) 1 8 underlying36 HI a3 a4 a5 rfl (by decide) _ _ _ rfl I (δ (w.heap.size+1) 0) 1 1 [ι an] rfl rfl a2 (qi _) (by unfold maxLen;omega) (by omega) ad ?_;intro v3 w3 Q F _;obtain⟨g3,a9,rfl⟩:=ky Q;have a1:=aa (d.sz (x:=an) F Q);have av:=aa ((ew (g:=g) al I ad F).setCell (p:=(δ g 2)) d.ge (.slice (some (δ g3 0)) (X.ins.length+1) a9));have a0:=aa (ec d.blk I (by decide) F);have ax:=aa (ec Y I (by decide) F);obtain⟨⟨d0,d1,d2⟩,e0,e1,e2⟩:=a0.ax;clear Q F;refine y _ _ (λ_ hS=>?_) ?_
 . exact⟨d2,ax.four.1.2.1⟩
 try simp only[Act.put,sx]
 refine af 9 (φ g 0) ?_;refine af 10 (φ g 2) ?_;try simp only[Act.put,sx]
 refine a8 11 (λK y=>?_);go_simp;refine y _ _ (λh=>absurd h (by decide)) ?_;try simp only[Act.put,sx]
 refine ce ?_;go_wp2;go_ret;exact .of rfl rfl av a1
theorem a0t(B g:Nat)(ve V vi:Value)(X:Ds)(an z:Int)(E:ByteArray)(w:ω)(Q:lk B g w ve V vi X)(ba:X.out.length<=1000) :
 Calls prog 215 #[φ g 0,tc ⟨4,an,z,E⟩] w (kf B g true ⟨X.env,X.out ++ [⟨4,0,0,an⟩],X.ins⟩ w):=by
 obtain⟨i0,HI,a3,a4,a5⟩:=ιp Tryz.zz;have I:=Q.below (ap w (fk ⟨4,an,z,E⟩));have O:=cg.new w 92 #[ι 4,ι an,ι z,.string E];have Y:=(ag B w).alloc Q.lt (fk ⟨4,an,z,E⟩);obtain⟨⟨c0,c1,c2⟩,f0,f1,f2⟩:=I.blk.ax;obtain⟨⟨q0,q1,q2,q3⟩,_⟩:=O.four;have y:=aa ((I.below (ap _ (.cells #[ι 4,ι 0,ι 0,ι an] 73))).drew);have Z:=aa ((O.alloc (.cells #[ι 4,ι 0,ι 0,ι an] 73)).drew);have al:=aa ((Y.alloc I.lt (.cells #[ι 4,ι 0,ι 0,ι an] 73)).drew);have J:=aa y.out.out;have ak:=aa y.out.lt;have ad:=aa (And.intro y.out.blk.ax.1.2.1 Z.out.four.1);have a2:=aa (ahr (w.alloc (fk ⟨4,an,z,E⟩)) ⟨4,0,0,an⟩ (w.heap.size+1) (by simp));clear Q I O Y;go_enter func215,ntmps215;go_wp2_with fail;refine cr (λW=>W.cell? (δ g 1)=some V/\W.cell? (δ w.heap.size 1)=some (ι an)) [12] ?_;refine af 0 (φ g 0) ?_;refine af 1 (φ g 0) ?_;refine af 2 (φ g 0) ?_;refine af 3 (φ g 1) ?_;refine a7 4 V (⟨c1,q1⟩) ?_;refine af 5 (φ w.heap.size 1) ?_;refine a7 6 (ι an) (⟨c1,q1⟩) ?_;refine af 7 (.agg #[ι 4,ι 0,ι 0,ι an]) ?_;try simp only[Act.put,sx]
 refine a8 8 (λK d=>?_);go_simp;refine d.out _ _ (λ_ hS=>?_) ?_
 . exact⟨ad.out.1,ad.out.2.2.1⟩
 clear d K;try simp only[Act.put,sx]
 refine a8 9 (λK d=>?_);refine kw _ _ 39 rfl B 73 i0 (.agg #[ι 0,ι 0,ι 0,ι 0]) 4 32 underlying39 HI.out a3.out a4.out a5.out rfl (by decide) _ _ _ rfl J.out (δ (w.heap.size+1) 0) 1 1 (ft ⟨4,0,0,an⟩) rfl rfl a2.out (ae2 _) (by unfold maxLen;omega) (by omega) ak.out ?_;intro v3 w3 U F _;obtain⟨g3,a9,rfl⟩:=ky U;have a1:=aa (y.out.adl (o:=⟨4,0,0,an⟩) F U);have av:=aa ((ew (g:=g) al.out J.out ak.out F).setCell (p:=(δ g 1)) y.out.ge (.slice (some (δ g3 0)) (X.out.length+1) a9));have a0:=aa (ec y.out.blk J.out (by decide) F);have ax:=aa (ec Z.out J.out (by decide) F);obtain⟨⟨d0,d1,d2⟩,e0,e1,e2⟩:=a0.out.ax;clear U F;refine d.out _ _ (λ_ hS=>?_) ?_
 . exact⟨d1,ax.out.four.1.2.1⟩
 clear d K;try simp only[Act.put,sx]
 refine af 10 (φ g 0) ?_;refine af 11 (φ g 1) ?_;try simp only[Act.put,sx]
 refine a8 12 (λK d=>?_);go_simp;refine d.out _ _ (λh=>absurd h (by decide)) ?_;clear d K;try simp only[Act.put,sx]
 refine ce ?_;go_wp2;go_ret;exact .of rfl rfl av.out a1.out
theorem iu{w:ω}{g g':Nat}{t y:TypeId}{cs z:Array Value}(h:cg w g t cs)(d:cg w g' y z)(I:t≠y)(j:Nat)(u:Value):cg (w.setCell (δ g' j) u) g t cs:=by
 have J:g≠g':=by intro F;subst F;unfold cg at h d;rw[h]at d;injection d with d;injection d with _ E;exact I E
 exact(cz w (δ g' j) u g J).trans h
theorem lk.m2{B g p t:Nat}{w:ω}{y E z:Value}{X:Ds}{cs:Array Value}(h:lk B g w y E z X)(d:cg w p t cs)(j:Nat)(u:Value)(F:233≠t)(I:2≠t)(J:73≠t)(O:3≠t):lk B g (w.setCell (δ p j) u) y E z X :=
 ⟨iu h.blk d F j u,h.ge,cu.apart h.env d I j u,du h.out d J j u,du h.ins d O j u⟩
theorem av4(B g:Nat)(Q vo vi:Value)(X:Ds)(an z:Int)(d:ByteArray)(w:ω)(hL:ju w)(hs:d.size<=1000000)(U:lk B g w Q vo vi X)(bk:X.env.length<=1000)(b1:X.Fit)(b2:X.out.length<=1000)(n:Int)(hv:aac d X.env=.ok 1 n) :
 Calls prog 215 #[φ g 0,tc ⟨1,an,z,d⟩] w (kf B g (doK ⟨1,an,z,d⟩ n X).isSome ((doK ⟨1,an,z,d⟩ n X).getD X) w):=by
 have a2:=aa (λ(W:ω)(h:κ w W)=>(zw d Q X.env W (hL.after h) hs (U.env.nums.below h) bk b1).mono (λe w' h=>we h));have bs:sb (fi d.data.toList) X.env=.ok 1 n:=hv;rw[bs]at a2;have b6:=λW=>abm W;have F:=aa (U.below (ap w (fk ⟨1,an,z,d⟩)));have J:=aa (cg.new w 92 #[ι 1,ι an,ι z,.string d]);have a4:=aa ((ag B w).alloc U.lt (fk ⟨1,an,z,d⟩));have bf:=aa (ap w (fk ⟨1,an,z,d⟩)).drew;have bb:=aa U.lt;obtain⟨⟨c0,c1,c2⟩,f0,f1,f2⟩:=F.blk.ax;obtain⟨⟨q0,q1,q2,q3⟩,_⟩:=J.four;have ba:=aa (λ(W:ω)(hd:lk B g W Q vo vi X)=>afe B g Q vo vi X ⟨1,an,z,d⟩ n W hd bk b2 (by simp));generalize (doK ⟨1,an,z,d⟩ n X).isSome=rr at *;generalize (doK ⟨1,an,z,d⟩ n X).getD X=Y at *;clear hL hs U hv bs;go_enter func215,ntmps215;go_wp2_with fail;refine cr (λW=>W.cell? (δ w.heap.size 3)=some (.string d)/\W.cell? (δ g 0)=some Q) [11] ?_;refine af 0 (φ w.heap.size 3) ?_;refine a7 1 (.string d) (⟨q3,c0⟩) ?_;refine af 2 (φ g 0) ?_;refine af 3 (φ g 0) ?_;refine af 4 (φ g 0) ?_;refine a7 5 Q (⟨q3,c0⟩) ?_;try simp only[Act.put,sx]
 refine t8 6 10 (λK y=>?orderA) (λK y=>?orderB)
 case' orderA =>
  go_simp;refine(a2 _ bf).mono ?_;rintro e w2⟨E,I⟩;have I:e=.returned (.tuple #[.agg #[ι 1,ι n],.nilIface]):=I;subst I;have ad:=aa (F.drew.below E);have av:=aa (J.drew.below E J.lt);have bt:=aa (a4.drew.trans (E.mono F.drew.lt));clear E;go_simp;refine y _ _ (λ_ hS=>⟨av.four.1.2.2.2,ad.blk.ax.1.1⟩) ?_;try simp only[Act.put,sx]
  refine af 7 (.tuple #[.agg #[ι 1,ι n],.nilIface]) ?_;refine af 8 (.agg #[ι 1,ι n]) ?_;refine af 9 .nilIface ?_;try simp only[Act.put,sx]
  refine a8 10 (λK y=>?_);go_simp;refine y _ _ (λ_ hS=>⟨(av.alloc (.cells #[ι 0,ι 0] 239)).four.1.2.2.2,(ad.blk.alloc (.cells #[ι 0,ι 0] 239)).ax.1.1⟩) ?_;try simp only[Act.put,sx]
  refine a8 11 (λK y=>?_);go_simp;refine y _ _ (λh=>absurd h (by decide)) ?_;try simp only[Act.put,sx]
  refine af 12 .nilIface ?_;try simp only[Act.put,sx]
  refine ce ?_;have a3:=aa (cg.new w2 239 #[ι 1,ι n]);have a1:=aa (ad.below (ap w2 (.cells #[ι 1,ι n] 239)));have ax:=aa (bt.alloc ad.lt (.cells #[ι 1,ι n] 239));have ak:=aa (av.alloc (.cells #[ι 1,ι n] 239));obtain⟨⟨y0,y1⟩,_⟩:=a3.eb;obtain⟨⟨z0,z1,z2,z3⟩,_⟩:=ak.four;go_wp2_with fail;refine(ba _ a1).mono ?_;rintro e w4⟨rfl,V,b3,b5,b4,Z⟩;have al:=aa (ax.trans V);have a0:=aa Z;clear V Z;go_wp2;go_ret;exact .of rfl rfl al a0
 case' orderB =>
  go_simp;refine y _ _ (λ_ hS=>⟨J.drew.alloc (.cells #[ι 0,ι 0] 239) |>.four.1.2.2.2,F.drew.blk.alloc (.cells #[ι 0,ι 0] 239) |>.ax.1.1⟩) ?_;try simp only[Act.put,sx]
  refine a8 6 (λK y=>?_);go_simp;refine(a2 _ (bf.alloc (by simp) (.cells #[ι 0,ι 0] 239))).mono ?_;rintro e w2⟨E,I⟩;have I:e=.returned (.tuple #[.agg #[ι 1,ι n],.nilIface]):=I;subst I;have O:=aa ((cg.dy (w.alloc (fk ⟨1,an,z,d⟩)) 239 #[ι 0,ι 0] (w.heap.size+1) (by simp)).drew.below E (by simp));have a9:=aa ((F.below (ap _ (.cells #[ι 0,ι 0] 239))).drew.below E);have a5:=aa ((J.alloc (.cells #[ι 0,ι 0] 239)).drew.below E (J.alloc (.cells #[ι 0,ι 0] 239)).lt);have b0:=aa ((a4.alloc F.lt (.cells #[ι 0,ι 0] 239)).drew.trans (E.mono (F.below (ap _ (.cells #[ι 0,ι 0] 239))).drew.lt));clear E;go_simp;refine y _ _ (λ_ hS=>⟨a5.four.1.2.2.2,a9.blk.ax.1.1⟩) ?_;try simp only[Act.put,sx]
  refine af 7 (.tuple #[.agg #[ι 1,ι n],.nilIface]) ?_;refine af 8 (.agg #[ι 1,ι n]) ?_;refine af 9 .nilIface ?_;try simp only[Act.put,sx]
  obtain⟨⟨v0,v1⟩,v2,v3⟩:=O.eb;refine a8 11 (λK y=>?_);go_simp;refine y _ _ (λh=>absurd h (by decide)) ?_;try simp only[Act.put,sx]
  refine af 12 .nilIface ?_;try simp only[Act.put,sx]
  refine ce ?_;have a3:=aa (O.set2 (ι 1) (ι n));have a1:=aa ((a9.m2 O 0 (ι 1) (by decide) (by decide) (by decide) (by decide)).m2 (O.ca 0 _) 1 (ι n) (by decide) (by decide) (by decide) (by decide));have ax:=aa ((b0.setCell (p:=(δ (w.heap.size+1) 0)) (dn bb) (ι 1)).setCell (p:=(δ (w.heap.size+1) 1)) (dn bb) (ι n));have ak:=aa (iu (iu a5 O (by decide) 0 (ι 1)) (O.ca 0 _) (by decide) 1 (ι n));obtain⟨⟨y0,y1⟩,_⟩:=a3.eb;obtain⟨⟨z0,z1,z2,z3⟩,_⟩:=ak.four;go_wp2_with fail;refine(ba _ a1).mono ?_;rintro e w4⟨rfl,V,b3,b5,b4,Z⟩;have al:=aa (ax.trans V);have a0:=aa Z;clear V Z;go_wp2;go_ret;exact .of rfl rfl al a0
theorem ate(B g:Nat)(V vo vi:Value)(X:Ds)(an O:Int)(d:ByteArray)(w:ω)(hL:ju w)(hs:d.size<=1000000)(Q:lk B g w V vo vi X)(bb:X.env.length<=1000)(ba:X.Fit)(bk:X.out.length<=1000)(k n:Int)(hk:¬k=1)(hv:aac d X.env=.ok k n) :
 Calls prog 215 #[φ g 0,tc ⟨1,an,O,d⟩] w (kf B g false X w):=by
 have al:=aa (λ(W:ω)(h:κ w W)=>(zw d V X.env W (hL.after h) hs (Q.env.nums.below h) bb ba).mono (λe w' h=>we h));have a4:sb (fi d.data.toList) X.env=.ok k n:=hv;rw[a4]at al;have bf:=λW=>abm W;have E:=aa (Q.below (ap w (fk ⟨1,an,O,d⟩)));have I:=aa (cg.new w 92 #[ι 1,ι an,ι O,.string d]);have ax:=aa ((ag B w).alloc Q.lt (fk ⟨1,an,O,d⟩));have a3:=aa (ap w (fk ⟨1,an,O,d⟩)).drew;have a2:=aa Q.lt;obtain⟨⟨c0,c1,c2⟩,f0,f1,f2⟩:=E.blk.ax;obtain⟨⟨q0,q1,q2,q3⟩,_⟩:=I.four;have ek:(k==1)=false:=by simpa using hk
 clear hL hs Q hv a4 hk;go_enter func215,ntmps215;go_wp2_with fail;refine cr (λW=>W.cell? (δ w.heap.size 3)=some (.string d)/\W.cell? (δ g 0)=some V) [11] ?_;refine af 0 (φ w.heap.size 3) ?_;refine a7 1 (.string d) (⟨q3,c0⟩) ?_;refine af 2 (φ g 0) ?_;refine af 3 (φ g 0) ?_;refine af 4 (φ g 0) ?_;refine a7 5 V (⟨q3,c0⟩) ?_;try simp only[Act.put,sx]
 refine t8 6 10 (λK y=>?orderA) (λK y=>?orderB)
 case' orderA =>
  go_simp;refine(al _ a3).mono ?_;rintro e w2⟨z,F⟩;have F:e=.returned (.tuple #[.agg #[ι k,ι n],.nilIface]):=F;subst F;have U:=aa (E.drew.below z);have Z:=aa (I.drew.below z I.lt);have a5:=aa (ax.drew.trans (z.mono E.drew.lt));clear z;go_simp;refine y _ _ (λ_ hS=>⟨Z.four.1.2.2.2,U.blk.ax.1.1⟩) ?_;try simp only[Act.put,sx]
  refine af 7 (.tuple #[.agg #[ι k,ι n],.nilIface]) ?_;refine af 8 (.agg #[ι k,ι n]) ?_;refine af 9 .nilIface ?_;try simp only[Act.put,sx]
  refine a8 10 (λK y=>?_);go_simp;refine y _ _ (λ_ hS=>⟨(Z.alloc (.cells #[ι 0,ι 0] 239)).four.1.2.2.2,(U.blk.alloc (.cells #[ι 0,ι 0] 239)).ax.1.1⟩) ?_;try simp only[Act.put,sx]
  refine a8 11 (λK y=>?_);go_simp;refine y _ _ (λh=>absurd h (by decide)) ?_;try simp only[Act.put,sx]
  refine af 12 .nilIface ?_;try simp only[Act.put,sx]
  refine ce ?_;have av:=aa (cg.new w2 239 #[ι k,ι n]);have ak:=aa (U.below (ap w2 (.cells #[ι k,ι n] 239)));have ad:=aa (a5.alloc U.lt (.cells #[ι k,ι n] 239));have Y:=aa (Z.alloc (.cells #[ι k,ι n] 239));obtain⟨⟨y0,y1⟩,_⟩:=av.eb;obtain⟨⟨z0,z1,z2,z3⟩,_⟩:=Y.four;go_wp2;go_ret;exact .of rfl rfl ad ak
 case' orderB =>
  go_simp;refine y _ _ (λ_ hS=>⟨I.drew.alloc (.cells #[ι 0,ι 0] 239) |>.four.1.2.2.2,E.drew.blk.alloc (.cells #[ι 0,ι 0] 239) |>.ax.1.1⟩) ?_;try simp only[Act.put,sx]
  refine a8 6 (λK y=>?_);go_simp;refine(al _ (a3.alloc (by simp) (.cells #[ι 0,ι 0] 239))).mono ?_;rintro e w2⟨z,F⟩;have F:e=.returned (.tuple #[.agg #[ι k,ι n],.nilIface]):=F;subst F;have J:=aa ((cg.dy (w.alloc (fk ⟨1,an,O,d⟩)) 239 #[ι 0,ι 0] (w.heap.size+1) (by simp)).drew.below z (by simp));have a1:=aa ((E.below (ap _ (.cells #[ι 0,ι 0] 239))).drew.below z);have a0:=aa ((I.alloc (.cells #[ι 0,ι 0] 239)).drew.below z (I.alloc (.cells #[ι 0,ι 0] 239)).lt);have a9:=aa ((ax.alloc E.lt (.cells #[ι 0,ι 0] 239)).drew.trans (z.mono (E.below (ap _ (.cells #[ι 0,ι 0] 239))).drew.lt));clear z;go_simp;refine y _ _ (λ_ hS=>⟨a0.four.1.2.2.2,a1.blk.ax.1.1⟩) ?_;try simp only[Act.put,sx]
  refine af 7 (.tuple #[.agg #[ι k,ι n],.nilIface]) ?_;refine af 8 (.agg #[ι k,ι n]) ?_;refine af 9 .nilIface ?_;try simp only[Act.put,sx]
  obtain⟨⟨v0,v1⟩,v2,v3⟩:=J.eb;refine a8 11 (λK y=>?_);go_simp;refine y _ _ (λh=>absurd h (by decide)) ?_;try simp only[Act.put,sx]
  refine af 12 .nilIface ?_;try simp only[Act.put,sx]
  refine ce ?_;have av:=aa (J.set2 (ι k) (ι n));have ak:=aa ((a1.m2 J 0 (ι k) (by decide) (by decide) (by decide) (by decide)).m2 (J.ca 0 _) 1 (ι n) (by decide) (by decide) (by decide) (by decide));have ad:=aa ((a9.setCell (p:=(δ (w.heap.size+1) 0)) (dn a2) (ι k)).setCell (p:=(δ (w.heap.size+1) 1)) (dn a2) (ι n));have Y:=aa (iu (iu a0 J (by decide) 0 (ι k)) (J.ca 0 _) (by decide) 1 (ι n));obtain⟨⟨y0,y1⟩,_⟩:=av.eb;obtain⟨⟨z0,z1,z2,z3⟩,_⟩:=Y.four;go_wp2;go_ret;exact .of rfl rfl ad ak
theorem atf(B g:Nat)(V vo vi:Value)(X:Ds)(an O:Int)(d:ByteArray)(w:ω)(hL:ju w)(hs:d.size<=1000000)(Q:lk B g w V vo vi X)(bb:X.env.length<=1000)(ba:X.Fit)(bs:X.out.length<=1000)(c:Int)(hv:aac d X.env=.bad c) :
 Calls prog 215 #[φ g 0,tc ⟨1,an,O,d⟩] w (kf B g false X w):=by
 have al:=aa (λ(W:ω)(h:κ w W)=>(zw d V X.env W (hL.after h) hs (Q.env.nums.below h) bb ba).mono (λe w' h=>we h));have a4:sb (fi d.data.toList) X.env=.bad c:=hv;rw[a4]at al;have bk:=λW=>abm W;have E:=aa (Q.below (ap w (fk ⟨1,an,O,d⟩)));have I:=aa (cg.new w 92 #[ι 1,ι an,ι O,.string d]);have ax:=aa ((ag B w).alloc Q.lt (fk ⟨1,an,O,d⟩));have a3:=aa (ap w (fk ⟨1,an,O,d⟩)).drew;have a2:=aa Q.lt;obtain⟨⟨c0,c1,c2⟩,f0,f1,f2⟩:=E.blk.ax;obtain⟨⟨q0,q1,q2,q3⟩,_⟩:=I.four;clear hL hs Q hv a4;go_enter func215,ntmps215;go_wp2_with fail;refine cr (λW=>W.cell? (δ w.heap.size 3)=some (.string d)/\W.cell? (δ g 0)=some V) [11] ?_;refine af 0 (φ w.heap.size 3) ?_;refine a7 1 (.string d) (⟨q3,c0⟩) ?_;refine af 2 (φ g 0) ?_;refine af 3 (φ g 0) ?_;refine af 4 (φ g 0) ?_;refine a7 5 V (⟨q3,c0⟩) ?_;try simp only[Act.put,sx]
 refine t8 6 10 (λK y=>?orderA) (λK y=>?orderB)
 case' orderA =>
  go_simp;refine(al _ a3).mono ?_;rintro e w2⟨z,t,p,F,bf⟩;have F:e=.returned (.tuple #[.agg #[ι 0,ι 0],.iface t p]):=F;subst F;have U:=aa (E.drew.below z);have Z:=aa (I.drew.below z I.lt);have a5:=aa (ax.drew.trans (z.mono E.drew.lt));clear z;go_simp;refine y _ _ (λ_ hS=>⟨Z.four.1.2.2.2,U.blk.ax.1.1⟩) ?_;try simp only[Act.put,sx]
  refine af 7 (.tuple #[.agg #[ι 0,ι 0],.iface t p]) ?_;refine af 8 (.agg #[ι 0,ι 0]) ?_;refine af 9 (.iface t p) ?_;try simp only[Act.put,sx]
  refine a8 10 (λK y=>?_);go_simp;refine y _ _ (λ_ hS=>⟨(Z.alloc (.cells #[ι 0,ι 0] 239)).four.1.2.2.2,(U.blk.alloc (.cells #[ι 0,ι 0] 239)).ax.1.1⟩) ?_;try simp only[Act.put,sx]
  refine a8 11 (λK y=>?_);go_simp;refine y _ _ (λh=>absurd h (by decide)) ?_;try simp only[Act.put,sx]
  refine af 12 (.iface t p) ?_;try simp only[Act.put,sx]
  refine ce ?_;have av:=aa (cg.new w2 239 #[ι 0,ι 0]);have ak:=aa (U.below (ap w2 (.cells #[ι 0,ι 0] 239)));have ad:=aa (a5.alloc U.lt (.cells #[ι 0,ι 0] 239));have Y:=aa (Z.alloc (.cells #[ι 0,ι 0] 239));obtain⟨⟨y0,y1⟩,_⟩:=av.eb;obtain⟨⟨z0,z1,z2,z3⟩,_⟩:=Y.four;go_wp2;go_ret;exact .of rfl rfl ad ak
 case' orderB =>
  go_simp;refine y _ _ (λ_ hS=>⟨I.drew.alloc (.cells #[ι 0,ι 0] 239) |>.four.1.2.2.2,E.drew.blk.alloc (.cells #[ι 0,ι 0] 239) |>.ax.1.1⟩) ?_;try simp only[Act.put,sx]
  refine a8 6 (λK y=>?_);go_simp;refine(al _ (a3.alloc (by simp) (.cells #[ι 0,ι 0] 239))).mono ?_;rintro e w2⟨z,t,p,F,bf⟩;have F:e=.returned (.tuple #[.agg #[ι 0,ι 0],.iface t p]):=F;subst F;have J:=aa ((cg.dy (w.alloc (fk ⟨1,an,O,d⟩)) 239 #[ι 0,ι 0] (w.heap.size+1) (by simp)).drew.below z (by simp));have a1:=aa ((E.below (ap _ (.cells #[ι 0,ι 0] 239))).drew.below z);have a0:=aa ((I.alloc (.cells #[ι 0,ι 0] 239)).drew.below z (I.alloc (.cells #[ι 0,ι 0] 239)).lt);have a9:=aa ((ax.alloc E.lt (.cells #[ι 0,ι 0] 239)).drew.trans (z.mono (E.below (ap _ (.cells #[ι 0,ι 0] 239))).drew.lt));clear z;go_simp;refine y _ _ (λ_ hS=>⟨a0.four.1.2.2.2,a1.blk.ax.1.1⟩) ?_;try simp only[Act.put,sx]
  refine af 7 (.tuple #[.agg #[ι 0,ι 0],.iface t p]) ?_;refine af 8 (.agg #[ι 0,ι 0]) ?_;refine af 9 (.iface t p) ?_;try simp only[Act.put,sx]
  obtain⟨⟨v0,v1⟩,v2,v3⟩:=J.eb;refine a8 11 (λK y=>?_);go_simp;refine y _ _ (λh=>absurd h (by decide)) ?_;try simp only[Act.put,sx]
  refine af 12 (.iface t p) ?_;try simp only[Act.put,sx]
  refine ce ?_;have av:=aa (J.set2 (ι 0) (ι 0));have ak:=aa ((a1.m2 J 0 (ι 0) (by decide) (by decide) (by decide) (by decide)).m2 (J.ca 0 _) 1 (ι 0) (by decide) (by decide) (by decide) (by decide));have ad:=aa ((a9.setCell (p:=(δ (w.heap.size+1) 0)) (dn a2) (ι 0)).setCell (p:=(δ (w.heap.size+1) 1)) (dn a2) (ι 0));have Y:=aa (iu (iu a0 J (by decide) 0 (ι 0)) (J.ca 0 _) (by decide) 1 (ι 0));obtain⟨⟨y0,y1⟩,_⟩:=av.eb;obtain⟨⟨z0,z1,z2,z3⟩,_⟩:=Y.four;go_wp2;go_ret;exact .of rfl rfl ad ak
end Go.Proofs.YtpekhdfmmkmjaaaGreatDoor
