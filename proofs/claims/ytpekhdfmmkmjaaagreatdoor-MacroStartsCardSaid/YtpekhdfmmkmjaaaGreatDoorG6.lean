/- Texts of the proof, put together. -/
import Derived.Test.YtpekhdfmmkmjaaaGreatDoorG5
namespace Go.Proofs.YtpekhdfmmkmjaaaGreatDoor
set_option maxHeartbeats 4000000
set_option maxRecDepth 100000
set_option linter.unusedVariables false
open Go.Proofs.Tryz
open Go.ChangeShapes Go.WideShapes Go.ChangeAt Go.RowKit
theorem afq(m:Md)(ts:List Tk):∀(n i:Nat),i<=n->i<=ts.length->td ts i->∀x S u V,stk ts i=x::S->vs m ts i=u::V->V=vs m ts x.f
 | n,0,_,_,_,x,S,u,V,h,_=>by cases h
 | 0,i+1,hn,_,_,_,_,_,_,_,_=>by omega
 | n+1,i+1,hn,hl,F,x,S,u,V,h,E=>by
  rw[aj8]at h;rw[aa3 m (by omega)]at E;have J:=acb m ts i (by omega) (F.mono (by omega));have h0:=(F i (by omega)).1;have I:=(F i (by omega)).2;rcases ot (ts.getD i (0,0,0)) with c | c | c | c
  . omega
  . rw[a2r _ c]at h;rw[aep _ c]at E;injection h with U Z;injection E with ad Q;subst U;exact Q.symm
  . rcases d:stk ts i with _ | ⟨y,O⟩
    . rw[d,c]at I;simp at I
    . rcases z:vs m ts i with _ | ⟨y',W⟩
      . rw[d,z]at J;simp at J
      . rw[d,a2q _ _ c]at h;rw[z,aeo _ _ c]at E;injection h with U Z;injection E with ad Q;have:=afq m ts n i (by omega) (by omega) (F.mono (by omega)) y O y' W d z;subst U;subst Q;exact this
  . rcases d:stk ts i with _ | ⟨b,_ | ⟨a,O⟩⟩
    . rw[d,c]at I;simp at I
    . rw[d,c]at I;simp at I
    . rcases z:vs m ts i with _ | ⟨b',_ | ⟨Y,W⟩⟩
      . rw[d,z]at J;simp at J
      . rw[d,z]at J;simp at J
      . rw[d,a2p _ _ _ c]at h;rw[z,aen _ _ _ c]at E;injection h with U Z;injection E with ad Q;have h2:=aaf ts i i (ai _) (F.mono (by omega)) b (a::O) d;have h3:=afq m ts n i (by omega) (by omega) (F.mono (by omega)) b (a::O) b' (Y::W) d z;have h4:=afq m ts n b.f (by omega) (by omega) (F.mono (by omega)) a O Y W h2.2.symm h3.symm;subst U;subst Q;exact h4
theorem fm{I:Func}{r s:Tmp}(O:I.results=#[.cell r 284,.tmp s])(y:Array Value)(w:ω)(g:Nat)(a b c:Value)
 (J:y.getD r undef=φ g 0)(d:cg w g 284 #[a,b,c]) :
 (results I y).run prog w=.ok (.tuple #[.agg #[a,b,c],y.getD s undef]) w:=by
 have z:=d.cell 0;have E:=d.cell 1;have F:=d.cell 2;simp at z E F J;simp[results,O,J,go_sem,z,E,F]
def ja(u:Vl)(f:Nat)(w:ω)(e:Ending)(d:ω):Prop:=e=.returned (.tuple #[ee u,ι (f:Int)])/\κ w d
theorem lz{u:Vl}{f:Nat}{a b c:Int}(h:ee u=.agg #[ι a,ι b,ι c]):Ending.returned (.tuple #[.agg #[ι a,ι b,ι c],ι (f:Int)])=.returned (.tuple #[ee u,ι (f:Int)]):=by rw[h]
theorem a18{w:ω}{A:Option Addr}{cap k:Nat}{ts:List Tk}{t:Tk}(h:lw w (.slice A ts.length cap) ts)(U:ts[k]?=some t):∃b o:Nat,A=some (δ b o)/\b<w.heap.size/\w.cell? (δ b (o+k*3))=some (ι t.1)/\w.cell? (δ b (o+k*3+1))=some (ι t.2.1)/\w.cell? (δ b (o+k*3+2))=some (ι t.2.2)/\ts.length<=cap:=by obtain ⟨W,Y,V,J,O⟩:=h;injection V with E Z F;subst E;subst F;obtain⟨b,o,I,Q,d,y,z⟩:=O k t U;exact⟨b,o,I,Q,d,y,z,J⟩
def W0(w:ω)(kd x a:Int):ω:=(w.alloc (.cells #[ι 0,ι 0,ι 0] 284)).alloc (.cells #[ι kd,ι x,ι a] 206)
theorem jw(w:ω)(kd x a:Int):κ w (W0 w kd x a):=((ag w.heap.size w).alloc (ai _) _).alloc (by simp) _
theorem nx(w:ω)(kd x a:Int):cg (W0 w kd x a) w.heap.size 284 #[ι 0,ι 0,ι 0]:=(cg.new w 284 _).alloc _
theorem nw(w:ω)(kd x a:Int):cg (W0 w kd x a) (w.heap.size+1) 206 #[ι kd,ι x,ι a]:=cg.dy _ 206 _ _ (by simp)
theorem a9d(ts:List Tk)(b o cap k:Nat)(x I:Int)(J:Value)(w:ω)(hk:k<ts.length)(hl:ts.length<=100)(ty:Bool)(al:b<w.heap.size)(Q:w.cell? (δ b (o+k*3))=some (ι 1))(U:w.cell? (δ b (o+k*3+1))=some (ι x))(V:w.cell? (δ b (o+k*3+2))=some (ι 0))(ad:ts.length<=cap) :
 Calls prog 282 #[.slice (some (δ b o)) ts.length cap,ι (k:Int),J,ι I,.bool ty] w (ja (.ok 1 x) k w):=by
 have ak:(k:Int)<(ts.length:Int):=by omega
 have y:=aa (jw w 1 x 0);have E:=aa (nx w 1 x 0);have O:=aa (nw w 1 x 0);go_enter func282,ntmps282;go_wp2_with fail;refine(om _ _).mono ?_;rintro e w1⟨rfl,d⟩;have F:=aa (y.trans (d.mono y.size));have z:=aa (E.below d E.lt);obtain⟨⟨r0,r1,r2⟩,W,Y,Z⟩:=z.ax;clear d;go_wp2_with fail;refine bodyPost_ret (fm Tryz.results282 _ _ w.heap.size _ _ _ (by rfl) (z.l7 _ _ _)) rfl ⟨lz (by rfl),((F.setCell (by simp) _).setCell (by simp) _).setCell (by simp) _⟩
theorem a0p(ts:List Tk)(b o cap k:Nat)(x y:Int)(O:Value)(w:ω)(hk:k<ts.length)(hl:ts.length<=100)(J:x<y)(al:b<w.heap.size)(U:w.cell? (δ b (o+k*3))=some (ι 2))(V:w.cell? (δ b (o+k*3+1))=some (ι x))(W:w.cell? (δ b (o+k*3+2))=some (ι 0))(ad:ts.length<=cap) :
 Calls prog 282 #[.slice (some (δ b o)) ts.length cap,ι (k:Int),O,ι y,.bool true] w (ja (.ok 1 0) k w):=by
 have ak:(k:Int)<(ts.length:Int):=by omega
 have z:=aa (jw w 2 x 0);have F:=aa (nx w 2 x 0);have Q:=aa (nw w 2 x 0);have hd:decide (x<y)=true:=by simpa using J
 go_enter func282,ntmps282;go_wp2_with fail;refine(om _ _).mono ?_;rintro e w1⟨rfl,d⟩;have I:=aa (z.trans (d.mono z.size));have E:=aa (F.below d F.lt);obtain⟨⟨r0,r1,r2⟩,Y,Z,f2⟩:=E.ax;clear d;go_wp2_with fail;refine bodyPost_ret (fm Tryz.results282 _ _ w.heap.size _ _ _ (by rfl) (E.l7 _ _ _)) rfl ⟨lz (by rfl),((I.setCell (by simp) _).setCell (by simp) _).setCell (by simp) _⟩
theorem avt(ts:List Tk)(b o cap k:Nat)(x d:Int)(z:Value)(w:ω)(Y:k<ts.length)(hl:ts.length<=100)(y:d<=x)(ad:b<w.heap.size)(J:w.cell? (δ b (o+k*3))=some (ι 2))(O:w.cell? (δ b (o+k*3+1))=some (ι x))(Q:w.cell? (δ b (o+k*3+2))=some (ι 0))(U:ts.length<=cap) :
 Calls prog 282 #[.slice (some (δ b o)) ts.length cap,ι (k:Int),z,ι d,.bool true] w (ja (.bad 4) k w):=by
 have Z:(k:Int)<(ts.length:Int):=by omega
 have E:=aa (jw w 2 x 0);have F:=aa (nx w 2 x 0);have I:=aa (nw w 2 x 0);have V:decide (x<d)=false:=by simpa using y
 have W:¬x<d:=by omega
 go_enter func282,ntmps282;go_wp2_with fail;refine bodyPost_ret (fm Tryz.results282 _ _ w.heap.size _ _ _ (by rfl) ((cg.new w 284 _).alloc _)) rfl ⟨lz (by rfl),((ag w.heap.size w).alloc (ai _) _).alloc (by simp) _⟩
theorem a0q(ts:List Tk)(b o cap k:Nat)(Y:Int)(w:ω)(hk:k<ts.length)(hl:ts.length<=100)(y z Z d j:Nat)(n:Int)(am:d<=1000)(V:j<d)(W:y<w.heap.size)(Q:w.cell? (δ y (z+j))=some (ι n))(av:b<w.heap.size)(c0:w.cell? (δ b (o+k*3))=some (ι 2))(c1:w.cell? (δ b (o+k*3+1))=some (ι (j:Int)))(c2:w.cell? (δ b (o+k*3+2))=some (ι 0))(ad:ts.length<=cap) :
 Calls prog 282 #[.slice (some (δ b o)) ts.length cap,ι (k:Int),.slice (some (δ y z)) d Z,ι Y,.bool false] w (ja (.ok 1 n) k w):=by
 have al:(k:Int)<(ts.length:Int):=by omega
 have E:=aa (jw w 2 (j:Int) 0);have J:=aa (nx w 2 (j:Int) 0);have HT:=aa (nw w 2 (j:Int) 0);have ak:(j:Int)<(d:Int):=by omega
 have U:(W0 w 2 (j:Int) 0).cell? (δ y (z+j))=some (ι n):=(E.cell (p:=(δ y (z+j))) W).trans Q;have hd:decide ((j:Int)<(d:Int))=true:=by simpa using V
 unfold W0 at U;go_enter func282,ntmps282;go_wp2_with fail;refine(om _ _).mono ?_;rintro e w1⟨rfl,F⟩;have O:=aa (E.trans (F.mono E.size));have I:=aa (J.below F J.lt);obtain⟨⟨r0,r1,r2⟩,f0,f1,f2⟩:=I.ax;clear F;go_wp2_with fail;refine bodyPost_ret (fm Tryz.results282 _ _ w.heap.size _ _ _ (by rfl) (I.l7 _ _ _)) rfl ⟨lz (by rfl),((O.setCell (by simp) _).setCell (by simp) _).setCell (by simp) _⟩
theorem avu(ts:List Tk)(b o cap k:Nat)(x E:Int)(w:ω)(hk:k<ts.length)(hl:ts.length<=100)(z:Option Addr)(F d:Nat)(ak:d<=1000)(y:(d:Int)<=x)(al:b<w.heap.size)(Q:w.cell? (δ b (o+k*3))=some (ι 2))(U:w.cell? (δ b (o+k*3+1))=some (ι x))(V:w.cell? (δ b (o+k*3+2))=some (ι 0))(W:ts.length<=cap) :
 Calls prog 282 #[.slice (some (δ b o)) ts.length cap,ι (k:Int),.slice z d F,ι E,.bool false] w (ja (.bad 4) k w):=by
 have ad:(k:Int)<(ts.length:Int):=by omega
 have I:=aa (jw w 2 x 0);have J:=aa (nx w 2 x 0);have O:=aa (nw w 2 x 0);have Y:decide (x<(d:Int))=false:=by simpa using y
 have Z:¬x<(d:Int):=by omega
 go_enter func282,ntmps282;go_wp2_with fail;refine bodyPost_ret (fm Tryz.results282 _ _ w.heap.size _ _ _ (by rfl) ((cg.new w 284 _).alloc _)) rfl ⟨lz (by rfl),((ag w.heap.size w).alloc (ai _) _).alloc (by simp) _⟩
theorem a5f(ts:List Tk)(b o cap k:Nat)(I:Int)(J:Value)(w:ω)(hk:k<ts.length)(hl:ts.length<=100)(ty:Bool)(al:b<w.heap.size)(Q:w.cell? (δ b (o+k*3))=some (ι 15))(U:w.cell? (δ b (o+k*3+1))=some (ι 0))(V:w.cell? (δ b (o+k*3+2))=some (ι 0))(ad:ts.length<=cap) :
 Calls prog 282 #[.slice (some (δ b o)) ts.length cap,ι (k:Int),J,ι I,.bool ty] w (ja (tru true) k w):=by
 have ak:(k:Int)<(ts.length:Int):=by omega
 have y:=aa (jw w 15 0 0);have E:=aa (nx w 15 0 0);have O:=aa (nw w 15 0 0);go_enter func282,ntmps282;go_wp2_with fail;refine(m3 _ _).mono ?_;rintro e w1⟨rfl,d⟩;have F:=aa (y.trans (d.mono y.size));have z:=aa (E.below d E.lt);obtain⟨⟨r0,r1,r2⟩,W,Y,Z⟩:=z.ax;clear d;go_wp2_with fail;refine bodyPost_ret (fm Tryz.results282 _ _ w.heap.size _ _ _ (by rfl) (z.l7 _ _ _)) rfl ⟨lz (by rfl),((F.setCell (by simp) _).setCell (by simp) _).setCell (by simp) _⟩
theorem a0r(ts:List Tk)(b o cap k:Nat)(I:Int)(J:Value)(w:ω)(hk:k<ts.length)(hl:ts.length<=100)(ty:Bool)(al:b<w.heap.size)(Q:w.cell? (δ b (o+k*3))=some (ι 16))(U:w.cell? (δ b (o+k*3+1))=some (ι 0))(V:w.cell? (δ b (o+k*3+2))=some (ι 0))(ad:ts.length<=cap) :
 Calls prog 282 #[.slice (some (δ b o)) ts.length cap,ι (k:Int),J,ι I,.bool ty] w (ja (tru false) k w):=by
 have ak:(k:Int)<(ts.length:Int):=by omega
 have y:=aa (jw w 16 0 0);have E:=aa (nx w 16 0 0);have O:=aa (nw w 16 0 0);go_enter func282,ntmps282;go_wp2_with fail;refine(m3 _ _).mono ?_;rintro e w1⟨rfl,d⟩;have F:=aa (y.trans (d.mono y.size));have z:=aa (E.below d E.lt);obtain⟨⟨r0,r1,r2⟩,W,Y,Z⟩:=z.ax;clear d;go_wp2_with fail;refine bodyPost_ret (fm Tryz.results282 _ _ w.heap.size _ _ _ (by rfl) (z.l7 _ _ _)) rfl ⟨lz (by rfl),((F.setCell (by simp) _).setCell (by simp) _).setCell (by simp) _⟩
theorem as6(ts:List Tk)(b o cap k f:Nat)(V:Int)(ty:Bool)(W:Value)(w:ω)(hk:k<ts.length)(av:1<=k)(hl:ts.length<=100)(c:Int)(U:c≠0)(a0:b<w.heap.size)(c0:w.cell? (δ b (o+k*3))=some (ι 14))(c1:w.cell? (δ b (o+k*3+1))=some (ι 0))(c2:w.cell? (δ b (o+k*3+2))=some (ι 0))(am:ts.length<=cap)
 (Y:∀F y,κ w F->y=((k-1:Nat):Int)->Calls prog 282 #[.slice (some (δ b o)) ts.length cap,ι y,W,ι V,.bool ty] F (ja (.bad c) f F)) :
 Calls prog 282 #[.slice (some (δ b o)) ts.length cap,ι (k:Int),W,ι V,.bool ty] w (ja (.bad c) f w):=by
 have ax:(k:Int)<(ts.length:Int):=by omega
 have z:=aa (jw w 14 0 0);have J:=aa (nx w 14 0 0);have O:=aa (nw w 14 0 0);have Z:=aa Y;have ak:(c != 0)=true:=by simpa using U
 have al:(c==0)=false:=by simpa using U
 go_enter func282,ntmps282;go_wp2_with fail;refine(Z _ _ z (by omega)).mono ?_;rintro e I⟨rfl,d⟩;have ad:=aa (z.trans (d.mono z.size));have E:=aa (J.below d J.lt);have Q:=aa (O.below d O.lt);have a3:w.heap.size+1<I.heap.size:=Q.lt;unfold ee;obtain⟨⟨t0,t1,t2⟩,_⟩:=Q.ax;obtain⟨⟨r0,r1,r2⟩,f0,f1,f2⟩:=E.ax;have a1:w.heap.size<I.heap.size:=by omega
 have a2:¬w.heap.size=I.heap.size:=by omega
 obtain⟨⟨q0,q1,q2⟩,g0,g1,g2⟩:=(E.alloc (.cells #[ι 0,ι 0,ι c] 284)).ax;clear d;go_wp2_with fail;refine bodyPost_ret (fm Tryz.results282 _ _ w.heap.size _ _ _ (by rfl) ((E.l7 _ _ _).alloc _)) rfl ⟨lz (by rfl),(((ad.setCell (by simp) _).setCell (by simp) _).setCell (by simp) _).alloc (by simp;omega) _⟩
theorem as7(ts:List Tk)(b o cap k f:Nat)(V:Int)(ty:Bool)(W:Value)(w:ω)(hk:k<ts.length)(av:1<=k)(hl:ts.length<=100)(c:Int)(U:c≠0)(a0:b<w.heap.size)(c0:w.cell? (δ b (o+k*3))=some (ι 19))(c1:w.cell? (δ b (o+k*3+1))=some (ι 0))(c2:w.cell? (δ b (o+k*3+2))=some (ι 0))(am:ts.length<=cap)
 (Y:∀F y,κ w F->y=((k-1:Nat):Int)->Calls prog 282 #[.slice (some (δ b o)) ts.length cap,ι y,W,ι V,.bool ty] F (ja (.bad c) f F)) :
 Calls prog 282 #[.slice (some (δ b o)) ts.length cap,ι (k:Int),W,ι V,.bool ty] w (ja (.bad c) f w):=by
 have ax:(k:Int)<(ts.length:Int):=by omega
 have z:=aa (jw w 19 0 0);have J:=aa (nx w 19 0 0);have O:=aa (nw w 19 0 0);have Z:=aa Y;have ak:(c != 0)=true:=by simpa using U
 have al:(c==0)=false:=by simpa using U
 go_enter func282,ntmps282;go_wp2_with fail;refine(Z _ _ z (by omega)).mono ?_;rintro e I⟨rfl,d⟩;have ad:=aa (z.trans (d.mono z.size));have E:=aa (J.below d J.lt);have Q:=aa (O.below d O.lt);have a3:w.heap.size+1<I.heap.size:=Q.lt;unfold ee;obtain⟨⟨t0,t1,t2⟩,_⟩:=Q.ax;obtain⟨⟨r0,r1,r2⟩,f0,f1,f2⟩:=E.ax;have a1:w.heap.size<I.heap.size:=by omega
 have a2:¬w.heap.size=I.heap.size:=by omega
 obtain⟨⟨q0,q1,q2⟩,g0,g1,g2⟩:=(E.alloc (.cells #[ι 0,ι 0,ι c] 284)).ax;clear d;go_wp2_with fail;refine bodyPost_ret (fm Tryz.results282 _ _ w.heap.size _ _ _ (by rfl) ((E.l7 _ _ _).alloc _)) rfl ⟨lz (by rfl),(((ad.setCell (by simp) _).setCell (by simp) _).setCell (by simp) _).alloc (by simp;omega) _⟩
theorem avv(ts:List Tk)(b o cap k f:Nat)(W:Int)(ty:Bool)(Y:Value)(w:ω)(hk:k<ts.length)(am:1<=k)(hl:ts.length<=100)(n:Int)(ax:b<w.heap.size)(c0:w.cell? (δ b (o+k*3))=some (ι 14))(c1:w.cell? (δ b (o+k*3+1))=some (ι 0))(c2:w.cell? (δ b (o+k*3+2))=some (ι 0))(al:ts.length<=cap)
 (Z:∀I y,κ w I->y=((k-1:Nat):Int)->Calls prog 282 #[.slice (some (δ b o)) ts.length cap,ι y,Y,ι W,.bool ty] I (ja (.ok 2 n) f I)) :
 Calls prog 282 #[.slice (some (δ b o)) ts.length cap,ι (k:Int),Y,ι W,.bool ty] w (ja (tru (n==0)) f w):=by
 have av:(k:Int)<(ts.length:Int):=by omega
 have z:=aa (jw w 14 0 0);have J:=aa (nx w 14 0 0);have Q:=aa (nw w 14 0 0);have ad:=aa Z;go_enter func282,ntmps282;go_wp2_with fail;refine(ad _ _ z (by omega)).mono ?_;rintro e w1⟨rfl,d⟩;have V:=aa (z.trans (d.mono z.size));have E:=aa (J.below d J.lt);have U:=aa (Q.below d Q.lt);have a0:w.heap.size+1<w1.heap.size:=U.lt;unfold ee;obtain⟨⟨t0,t1,t2⟩,_⟩:=U.ax;obtain⟨⟨r0,r1,r2⟩,f0,f1,f2⟩:=E.ax;clear d;go_wp2_with fail;refine(m3 _ _).mono ?_;rintro e w2⟨rfl,F⟩;have ak:=aa ((V.alloc V.size (.cells #[ι 2,ι n,ι 0] 284)).trans (F.mono (by simp;omega)));have O:=aa ((E.alloc _).below F (E.alloc _).lt);obtain⟨⟨r0,r1,r2⟩,f0,f1,f2⟩:=O.ax;clear F;go_wp2_with fail;refine bodyPost_ret (fm Tryz.results282 _ _ w.heap.size _ _ _ (by rfl) (O.l7 _ _ _)) rfl ⟨lz (by rfl),((ak.setCell (by simp) _).setCell (by simp) _).setCell (by simp) _⟩
theorem avw(ts:List Tk)(b o cap k f:Nat)(U:Int)(ty:Bool)(V:Value)(w:ω)(hk:k<ts.length)(ak:1<=k)(hl:ts.length<=100)(n:Int)(am:b<w.heap.size)(c0:w.cell? (δ b (o+k*3))=some (ι 14))(c1:w.cell? (δ b (o+k*3+1))=some (ι 0))(c2:w.cell? (δ b (o+k*3+2))=some (ι 0))(ad:ts.length<=cap)
 (W:∀F y,κ w F->y=((k-1:Nat):Int)->Calls prog 282 #[.slice (some (δ b o)) ts.length cap,ι y,V,ι U,.bool ty] F (ja (.ok 1 n) f F)) :
 Calls prog 282 #[.slice (some (δ b o)) ts.length cap,ι (k:Int),V,ι U,.bool ty] w (ja (.bad 8) f w):=by
 have al:(k:Int)<(ts.length:Int):=by omega
 have z:=aa (jw w 14 0 0);have J:=aa (nx w 14 0 0);have O:=aa (nw w 14 0 0);have Y:=aa W;go_enter func282,ntmps282;go_wp2_with fail;refine(Y _ _ z (by omega)).mono ?_;rintro e I⟨rfl,d⟩;have Z:=aa (z.trans (d.mono z.size));have E:=aa (J.below d J.lt);have Q:=aa (O.below d O.lt);have a0:w.heap.size+1<I.heap.size:=Q.lt;unfold ee;obtain⟨⟨t0,t1,t2⟩,_⟩:=Q.ax;obtain⟨⟨r0,r1,r2⟩,f0,f1,f2⟩:=E.ax;have av:w.heap.size<I.heap.size:=by omega
 have ax:¬w.heap.size=I.heap.size:=by omega
 obtain⟨⟨q0,q1,q2⟩,g0,g1,g2⟩:=(E.alloc (.cells #[ι 1,ι n,ι 0] 284)).ax;clear d;go_wp2_with fail;refine bodyPost_ret (fm Tryz.results282 _ _ w.heap.size _ _ _ (by rfl) ((E.l7 _ _ _).alloc _)) rfl ⟨lz (by rfl),(((Z.setCell (by simp) _).setCell (by simp) _).setCell (by simp) _).alloc (by simp;omega) _⟩
theorem avx(ts:List Tk)(b o cap k f:Nat)(W:Int)(ty:Bool)(Y:Value)(w:ω)(hk:k<ts.length)(am:1<=k)(hl:ts.length<=100)(n:Int)(ax:b<w.heap.size)(c0:w.cell? (δ b (o+k*3))=some (ι 19))(c1:w.cell? (δ b (o+k*3+1))=some (ι 0))(c2:w.cell? (δ b (o+k*3+2))=some (ι 0))(al:ts.length<=cap)
 (Z:∀z y,κ w z->y=((k-1:Nat):Int)->Calls prog 282 #[.slice (some (δ b o)) ts.length cap,ι y,Y,ι W,.bool ty] z (ja (.ok 1 n) f z)) :
 Calls prog 282 #[.slice (some (δ b o)) ts.length cap,ι (k:Int),Y,ι W,.bool ty] w (ja (.ok 1 (wrap64 (-n))) f w):=by
 have av:(k:Int)<(ts.length:Int):=by omega
 have E:=aa (jw w 19 0 0);have J:=aa (nx w 19 0 0);have Q:=aa (nw w 19 0 0);have ad:=aa Z;go_enter func282,ntmps282;go_wp2_with fail;refine(ad _ _ E (by omega)).mono ?_;rintro e w1⟨rfl,d⟩;have V:=aa (E.trans (d.mono E.size));have F:=aa (J.below d J.lt);have U:=aa (Q.below d Q.lt);have a0:w.heap.size+1<w1.heap.size:=U.lt;unfold ee;obtain⟨⟨t0,t1,t2⟩,_⟩:=U.ax;obtain⟨⟨r0,r1,r2⟩,f0,f1,f2⟩:=F.ax;clear d;go_wp2_with fail;refine(akk 0 n _).mono ?_;rintro e z⟨rfl,rfl⟩;go_wp2_with fail;refine(om _ _).mono ?_;rintro e w2⟨rfl,I⟩;have ak:=aa ((V.alloc V.size (.cells #[ι 1,ι n,ι 0] 284)).trans (I.mono (by simp;omega)));have O:=aa ((F.alloc _).below I (F.alloc _).lt);obtain⟨⟨r0,r1,r2⟩,f0,f1,f2⟩:=O.ax;clear I;go_wp2_with fail;refine bodyPost_ret (fm Tryz.results282 _ _ w.heap.size _ _ _ (by rfl) (O.l7 _ _ _)) rfl ⟨lz (by rfl),((ak.setCell (by simp) _).setCell (by simp) _).setCell (by simp) _⟩
theorem avy(ts:List Tk)(b o cap k f:Nat)(U:Int)(ty:Bool)(V:Value)(w:ω)(hk:k<ts.length)(ak:1<=k)(hl:ts.length<=100)(n:Int)(am:b<w.heap.size)(c0:w.cell? (δ b (o+k*3))=some (ι 19))(c1:w.cell? (δ b (o+k*3+1))=some (ι 0))(c2:w.cell? (δ b (o+k*3+2))=some (ι 0))(ad:ts.length<=cap)
 (W:∀F y,κ w F->y=((k-1:Nat):Int)->Calls prog 282 #[.slice (some (δ b o)) ts.length cap,ι y,V,ι U,.bool ty] F (ja (.ok 2 n) f F)) :
 Calls prog 282 #[.slice (some (δ b o)) ts.length cap,ι (k:Int),V,ι U,.bool ty] w (ja (.bad 8) f w):=by
 have al:(k:Int)<(ts.length:Int):=by omega
 have z:=aa (jw w 19 0 0);have J:=aa (nx w 19 0 0);have O:=aa (nw w 19 0 0);have Y:=aa W;go_enter func282,ntmps282;go_wp2_with fail;refine(Y _ _ z (by omega)).mono ?_;rintro e I⟨rfl,d⟩;have Z:=aa (z.trans (d.mono z.size));have E:=aa (J.below d J.lt);have Q:=aa (O.below d O.lt);have a0:w.heap.size+1<I.heap.size:=Q.lt;unfold ee;obtain⟨⟨t0,t1,t2⟩,_⟩:=Q.ax;obtain⟨⟨r0,r1,r2⟩,f0,f1,f2⟩:=E.ax;have av:w.heap.size<I.heap.size:=by omega
 have ax:¬w.heap.size=I.heap.size:=by omega
 obtain⟨⟨q0,q1,q2⟩,g0,g1,g2⟩:=(E.alloc (.cells #[ι 2,ι n,ι 0] 284)).ax;clear d;go_wp2_with fail;refine bodyPost_ret (fm Tryz.results282 _ _ w.heap.size _ _ _ (by rfl) ((E.l7 _ _ _).alloc _)) rfl ⟨lz (by rfl),(((Z.setCell (by simp) _).setCell (by simp) _).setCell (by simp) _).alloc (by simp;omega) _⟩
theorem ai8(kd d an y bn:Int)(w:ω)(Q:3<=kd/\kd<=13)(F:sr (.ok d an))(J:sr (.ok y bn)):Calls prog 301 #[ι kd,.agg #[ι d,ι an],.agg #[ι y,ι bn]] w λe O=>e=.returned (ee (jf kd d an y bn))/\κ w O:=by
 by_cases I:d=y
 . subst I;rcases F with ⟨rfl,E⟩ | ⟨rfl,F⟩
   . have fb:uj bn:=by
      rcases J with ⟨_,h⟩ | ⟨h,_⟩
      . exact h
      . cases h
     obtain rfl | rfl | rfl | rfl | rfl | rfl | rfl | rfl | rfl | rfl | rfl:kd=3\/kd=4\/kd=5\/kd=6\/kd=7\/kd=8\/kd=9\/kd=10\/kd=11\/kd=12\/kd=13:=by omega
     . exact bck an bn w
     . exact bcj an bn w
     . exact bci an bn w
     . by_cases z:bn=0
       . subst z;exact bau an w
       . exact bch an bn w z E fb
     . by_cases z:bn=0
       . subst z;exact bas an w
       . exact bcg an bn w z E fb
     . exact bcf an bn w
     . exact bce an bn w
     . exact a14 1 an bn w
     . exact a13 1 an bn w
     . exact a7d an bn w
     . exact a7a an bn w
   . obtain rfl | rfl | rfl | rfl | rfl | rfl | rfl | rfl | rfl | rfl | rfl:kd=3\/kd=4\/kd=5\/kd=6\/kd=7\/kd=8\/kd=9\/kd=10\/kd=11\/kd=12\/kd=13:=by omega
     . exact bay an bn w
     . exact bax an bn w
     . exact baw an bn w
     . exact bav an bn w
     . exact bat an bn w
     . exact bar an bn w
     . exact baq an bn w
     . exact a14 2 an bn w
     . exact a13 2 an bn w
     . by_cases h:an=1
       . exact a7c an bn w h
       . exact a7b an bn w h
     . by_cases h:an=1
       . exact a69 an bn w h
       . exact a68 an bn w h
 . exact a12 kd d an y bn w I
theorem apn(ts:List Tk)(b o cap k f fb:Nat)(kd Y:Int)(ty:Bool)(Z:Value)(w:ω)(hk:k<ts.length)(b3:1<=k)(hl:ts.length<=100)(ax:3<=kd/\kd<=13)(bt:1<=fb/\fb<=k)(c:Int)(hc:c≠0)(W:Vl)(b5:b<w.heap.size)(c0:w.cell? (δ b (o+k*3))=some (ι kd))(c1:w.cell? (δ b (o+k*3+1))=some (ι 0))(c2:w.cell? (δ b (o+k*3+2))=some (ι 0))(bs:ts.length<=cap)
 (a0:∀d y,κ w d->y=((k-1:Nat):Int)->Calls prog 282 #[.slice (some (δ b o)) ts.length cap,ι y,Z,ι Y,.bool ty] d (ja (W) fb d))
 (a2:∀d y,κ w d->y=((fb-1:Nat):Int)->Calls prog 282 #[.slice (some (δ b o)) ts.length cap,ι y,Z,ι Y,.bool ty] d (ja (.bad c) f d)) :
 Calls prog 282 #[.slice (some (δ b o)) ts.length cap,ι (k:Int),Z,ι Y,.bool ty] w (ja (.bad c) f w):=by
 have b4:(k:Int)<(ts.length:Int):=by omega
 have Q:=aa (jw w kd 0 0);have HR:=aa (nx w kd 0 0);have HT:=aa (nw w kd 0 0);have a1:=aa a0;have a3:=aa a2;have ba:=aa ax;have k1:(kd==1)=false:=by simp;omega
 have k2:(kd==2)=false:=by simp;omega
 have cc:(kd==15)=false:=by simp;omega
 have ci:(kd==16)=false:=by simp;omega
 have cb:(kd==14)=false:=by simp;omega
 have cl:(kd==19)=false:=by simp;omega
 clear ax;obtain⟨I,J,O,a9⟩:∃I J O,ee W=.agg #[ι I,ι J,ι O]:=by cases W<;>exact ⟨_,_,_,rfl⟩
 have bf:(c != 0)=true:=by simpa using hc
 have bk:(c==0)=false:=by simpa using hc
 go_enter func282,ntmps282;go_wp2_with fail;refine(a1 _ _ Q (by omega)).mono ?_;rintro e w1⟨rfl,E⟩;have av:=aa (Q.trans (E.mono Q.size));have al:=aa (HR.below E HR.lt);have U:=aa (HT.below E HT.lt);have ca:w.heap.size+1<w1.heap.size:=U.lt;rw[a9];clear E;go_wp2_with fail;have V:=aa (av.alloc av.size (.cells #[ι I,ι J,ι O] 284));have ak:=aa (cg.new w1 284 #[ι I,ι J,ι O]);refine(a3 _ _ V (by omega)).mono ?_;rintro e F⟨rfl,z⟩;have a5:=aa (V.trans (z.mono V.size));have am:=aa ((al.alloc _).below z (al.alloc _).lt);have a4:=aa ((U.alloc _).below z (U.alloc _).lt);have ad:=aa (ak.below z ak.lt);have b9:w1.heap.size<F.heap.size:=ad.lt;have b6:w.heap.size<F.heap.size:=by omega
 have b8:¬w.heap.size=F.heap.size:=by omega
 have b7:w.heap.size+1<F.heap.size:=by omega
 unfold ee;obtain⟨⟨t0,t1,t2⟩,_⟩:=a4.ax;obtain⟨⟨r0,r1,r2⟩,f0,f1,f2⟩:=am.ax;obtain⟨⟨b0,b1,b2⟩,_⟩:=ad.ax;clear z;go_wp2_with fail;refine bodyPost_ret (fm Tryz.results282 _ _ w.heap.size _ _ _ (by rfl) ((am.l7 _ _ _).alloc _)) rfl ⟨lz (by rfl),(((a5.setCell (by simp) _).setCell (by simp) _).setCell (by simp) _).alloc (by simp;omega) _⟩
theorem apm(ts:List Tk)(b o cap k f fb:Nat)(kd U:Int)(ty:Bool)(V:Value)(w:ω)(hk:k<ts.length)(bk:1<=k)(hl:ts.length<=100)(av:3<=kd/\kd<=13)(bf:1<=fb/\fb<=k)(ak an:Int)(d:Int)(hd:d≠0)(bt:b<w.heap.size)(c0:w.cell? (δ b (o+k*3))=some (ι kd))(c1:w.cell? (δ b (o+k*3+1))=some (ι 0))(c2:w.cell? (δ b (o+k*3+2))=some (ι 0))(a9:ts.length<=cap)
 (ax:∀z y,κ w z->y=((k-1:Nat):Int)->Calls prog 282 #[.slice (some (δ b o)) ts.length cap,ι y,V,ι U,.bool ty] z (ja (.bad d) fb z))
 (a1:∀z y,κ w z->y=((fb-1:Nat):Int)->Calls prog 282 #[.slice (some (δ b o)) ts.length cap,ι y,V,ι U,.bool ty] z (ja (.ok ak an) f z)) :
 Calls prog 282 #[.slice (some (δ b o)) ts.length cap,ι (k:Int),V,ι U,.bool ty] w (ja (.bad d) f w):=by
 have bs:(k:Int)<(ts.length:Int):=by omega
 have J:=aa (jw w kd 0 0);have HR:=aa (nx w kd 0 0);have HT:=aa (nw w kd 0 0);have a0:=aa ax;have a2:=aa a1;have a5:=aa av;have k1:(kd==1)=false:=by simp;omega
 have k2:(kd==2)=false:=by simp;omega
 have b9:(kd==15)=false:=by simp;omega
 have ca:(kd==16)=false:=by simp;omega
 have b8:(kd==14)=false:=by simp;omega
 have cb:(kd==19)=false:=by simp;omega
 clear av;have ba:(d != 0)=true:=by simpa using hd
 have bb:(d==0)=false:=by simpa using hd
 go_enter func282,ntmps282;go_wp2_with fail;refine(a0 _ _ J (by omega)).mono ?_;rintro e W⟨rfl,F⟩;have am:=aa (J.trans (F.mono J.size));have ad:=aa (HR.below F HR.lt);have O:=aa (HT.below F HT.lt);have b7:w.heap.size+1<W.heap.size:=O.lt;unfold ee;clear F;go_wp2_with fail;have Q:=aa (am.alloc am.size (.cells #[ι 0,ι 0,ι d] 284));have Z:=aa (cg.new W 284 #[ι 0,ι 0,ι d]);refine(a2 _ _ Q (by omega)).mono ?_;rintro e I⟨rfl,E⟩;have a4:=aa (Q.trans (E.mono Q.size));have al:=aa ((ad.alloc _).below E (ad.alloc _).lt);have a3:=aa ((O.alloc _).below E (O.alloc _).lt);have Y:=aa (Z.below E Z.lt);have b6:W.heap.size<I.heap.size:=Y.lt;have b3:w.heap.size<I.heap.size:=by omega
 have b5:¬w.heap.size=I.heap.size:=by omega
 have b4:w.heap.size+1<I.heap.size:=by omega
 unfold ee;obtain⟨⟨t0,t1,t2⟩,_⟩:=a3.ax;obtain⟨⟨r0,r1,r2⟩,f0,f1,f2⟩:=al.ax;obtain⟨⟨b0,b1,b2⟩,_⟩:=Y.ax;clear E;go_wp2_with fail;refine bodyPost_ret (fm Tryz.results282 _ _ w.heap.size _ _ _ (by rfl) ((al.l7 _ _ _).alloc _)) rfl ⟨lz (by rfl),(((a4.setCell (by simp) _).setCell (by simp) _).setCell (by simp) _).alloc (by simp;omega) _⟩
theorem avz(ts:List Tk)(b o cap k f fb:Nat)(kd Y:Int)(ty:Bool)(Z:Value)(w:ω)(hk:k<ts.length)(b3:1<=k)(hl:ts.length<=100)(a2:3<=kd/\kd<=13)(bt:1<=fb/\fb<=k)(E an:Int)(z bn:Int)(HG:sr (.ok E an)/\sr (.ok z bn))(vk vn:Int)(HV:jf kd E an z bn=.ok vk vn)(b5:b<w.heap.size)(c0:w.cell? (δ b (o+k*3))=some (ι kd))(c1:w.cell? (δ b (o+k*3+1))=some (ι 0))(c2:w.cell? (δ b (o+k*3+2))=some (ι 0))(bs:ts.length<=cap)
 (a3:∀d y,κ w d->y=((k-1:Nat):Int)->Calls prog 282 #[.slice (some (δ b o)) ts.length cap,ι y,Z,ι Y,.bool ty] d (ja (.ok z bn) fb d))
 (a5:∀d y,κ w d->y=((fb-1:Nat):Int)->Calls prog 282 #[.slice (some (δ b o)) ts.length cap,ι y,Z,ι Y,.bool ty] d (ja (.ok E an) f d)) :
 Calls prog 282 #[.slice (some (δ b o)) ts.length cap,ι (k:Int),Z,ι Y,.bool ty] w (ja (.ok vk vn) f w):=by
 have b4:(k:Int)<(ts.length:Int):=by omega
 have Q:=aa (jw w kd 0 0);have HR:=aa (nx w kd 0 0);have HT:=aa (nw w kd 0 0);have a4:=aa a3;have a9:=aa a5;have ba:=aa a2;have k1:(kd==1)=false:=by simp;omega
 have k2:(kd==2)=false:=by simp;omega
 have co:(kd==15)=false:=by simp;omega
 have cv:(kd==16)=false:=by simp;omega
 have cl:(kd==14)=false:=by simp;omega
 have c3:(kd==19)=false:=by simp;omega
 clear a2;go_enter func282,ntmps282;go_wp2_with fail;refine(a4 _ _ Q (by omega)).mono ?_;rintro e w1⟨rfl,J⟩;have ax:=aa (Q.trans (J.mono Q.size));have am:=aa (HR.below J HR.lt);have V:=aa (HT.below J HT.lt);have ci:w.heap.size+1<w1.heap.size:=V.lt;unfold ee;clear J;go_wp2_with fail;have W:=aa (ax.alloc ax.size (.cells #[ι z,ι bn,ι 0] 284));have al:=aa (cg.new w1 284 #[ι z,ι bn,ι 0]);refine(a9 _ _ W (by omega)).mono ?_;rintro e I⟨rfl,F⟩;have a0:=aa (W.trans (F.mono W.size));have U:=aa ((am.alloc _).below F (am.alloc _).lt);have bb:=aa ((V.alloc _).below F (V.alloc _).lt);have ad:=aa (al.below F al.lt);have cb:w1.heap.size<I.heap.size:=ad.lt;have b6:w.heap.size<I.heap.size:=by omega
 have b9:¬w.heap.size=I.heap.size:=by omega
 have b7:w.heap.size+1<I.heap.size:=by omega
 unfold ee;obtain⟨⟨t0,t1,t2⟩,_⟩:=bb.ax;obtain⟨⟨r0,r1,r2⟩,f0,f1,f2⟩:=U.ax;obtain⟨⟨b0,b1,b2⟩,_⟩:=ad.ax;clear F;go_wp2_with fail;have a1:=aa (a0.alloc a0.size (.cells #[ι E,ι an,ι 0] 284));refine(ai8 kd E an z bn _ ba HG.1 HG.2).mono ?_;rintro e w3⟨rfl,O⟩;rw[HV];have bf:=aa (a1.trans (O.mono a1.size));have av:=aa ((U.alloc _).below O (U.alloc _).lt);have cc:I.heap.size<w3.heap.size:=by have:=O.size;simp at this;omega
 have b8:w.heap.size<w3.heap.size:=by omega
 have ca:¬w.heap.size=w3.heap.size:=by omega
 unfold ee;obtain⟨⟨r0,r1,r2⟩,f0,f1,f2⟩:=av.ax;clear O;go_wp2_with fail;refine bodyPost_ret (fm Tryz.results282 _ _ w.heap.size _ _ _ (by rfl) ((av.l7 _ _ _).alloc _)) rfl ⟨lz (by rfl),(((bf.setCell (by simp) _).setCell (by simp) _).setCell (by simp) _).alloc (by simp;omega) _⟩
theorem av0(ts:List Tk)(b o cap k f fb:Nat)(kd Z:Int)(ty:Bool)(ve:Value)(w:ω)(hk:k<ts.length)(b4:1<=k)(hl:ts.length<=100)(a2:3<=kd/\kd<=13)(b3:1<=fb/\fb<=k)(E an:Int)(z bn:Int)(HG:sr (.ok E an)/\sr (.ok z bn))(Q:Int)(bs:Q≠9)(HV:jf kd E an z bn=.bad Q)(b6:b<w.heap.size)(c0:w.cell? (δ b (o+k*3))=some (ι kd))(c1:w.cell? (δ b (o+k*3+1))=some (ι 0))(c2:w.cell? (δ b (o+k*3+2))=some (ι 0))(bt:ts.length<=cap)
 (a3:∀d y,κ w d->y=((k-1:Nat):Int)->Calls prog 282 #[.slice (some (δ b o)) ts.length cap,ι y,ve,ι Z,.bool ty] d (ja (.ok z bn) fb d))
 (a5:∀d y,κ w d->y=((fb-1:Nat):Int)->Calls prog 282 #[.slice (some (δ b o)) ts.length cap,ι y,ve,ι Z,.bool ty] d (ja (.ok E an) f d)) :
 Calls prog 282 #[.slice (some (δ b o)) ts.length cap,ι (k:Int),ve,ι Z,.bool ty] w (ja (.bad Q) f w):=by
 have b5:(k:Int)<(ts.length:Int):=by omega
 have U:=aa (jw w kd 0 0);have HR:=aa (nx w kd 0 0);have HT:=aa (nw w kd 0 0);have a4:=aa a3;have a9:=aa a5;have ba:=aa a2;have k1:(kd==1)=false:=by simp;omega
 have k2:(kd==2)=false:=by simp;omega
 have c3:(kd==15)=false:=by simp;omega
 have c4:(kd==16)=false:=by simp;omega
 have cv:(kd==14)=false:=by simp;omega
 have c5:(kd==19)=false:=by simp;omega
 clear a2;go_enter func282,ntmps282;go_wp2_with fail;refine(a4 _ _ U (by omega)).mono ?_;rintro e w1⟨rfl,J⟩;have ax:=aa (U.trans (J.mono U.size));have am:=aa (HR.below J HR.lt);have W:=aa (HT.below J HT.lt);have co:w.heap.size+1<w1.heap.size:=W.lt;unfold ee;clear J;go_wp2_with fail;have Y:=aa (ax.alloc ax.size (.cells #[ι z,ι bn,ι 0] 284));have al:=aa (cg.new w1 284 #[ι z,ι bn,ι 0]);refine(a9 _ _ Y (by omega)).mono ?_;rintro e I⟨rfl,F⟩;have a0:=aa (Y.trans (F.mono Y.size));have V:=aa ((am.alloc _).below F (am.alloc _).lt);have bb:=aa ((W.alloc _).below F (W.alloc _).lt);have ad:=aa (al.below F al.lt);have ci:w1.heap.size<I.heap.size:=ad.lt;have b7:w.heap.size<I.heap.size:=by omega
 have ca:¬w.heap.size=I.heap.size:=by omega
 have b8:w.heap.size+1<I.heap.size:=by omega
 unfold ee;obtain⟨⟨t0,t1,t2⟩,_⟩:=bb.ax;obtain⟨⟨r0,r1,r2⟩,f0,f1,f2⟩:=V.ax;obtain⟨⟨b0,b1,b2⟩,_⟩:=ad.ax;clear F;go_wp2_with fail;have a1:=aa (a0.alloc a0.size (.cells #[ι E,ι an,ι 0] 284));refine(ai8 kd E an z bn _ ba HG.1 HG.2).mono ?_;rintro e w3⟨rfl,O⟩;rw[HV];have bf:=aa (a1.trans (O.mono a1.size));have av:=aa ((V.alloc _).below O (V.alloc _).lt);have cl:I.heap.size<w3.heap.size:=by have:=O.size;simp at this;omega
 have b9:w.heap.size<w3.heap.size:=by omega
 have cb:¬w.heap.size=w3.heap.size:=by omega
 unfold ee;obtain⟨⟨r0,r1,r2⟩,f0,f1,f2⟩:=av.ax;clear O;have cc:(Q==9)=false:=by simpa using bs
 go_wp2_with fail;refine bodyPost_ret (fm Tryz.results282 _ _ w.heap.size _ _ _ (by rfl) ((av.l7 _ _ _).alloc _)) rfl ⟨lz (by rfl),(((bf.setCell (by simp) _).setCell (by simp) _).setCell (by simp) _).alloc (by simp;omega) _⟩
theorem as8(ts:List Tk)(b o cap k f fb:Nat)(kd ad:Int)(ve:Value)(w:ω)(hk:k<ts.length)(b5:1<=k)(hl:ts.length<=100)(a4:3<=kd/\kd<=13)(b4:1<=fb/\fb<=k)(E an:Int)(z bn:Int)(HG:sr (.ok E an)/\sr (.ok z bn))(HV:jf kd E an z bn=.bad 9)(b7:b<w.heap.size)(c0:w.cell? (δ b (o+k*3))=some (ι kd))(c1:w.cell? (δ b (o+k*3+1))=some (ι 0))(c2:w.cell? (δ b (o+k*3+2))=some (ι 0))(b3:ts.length<=cap)
 (a5:∀d y,κ w d->y=((k-1:Nat):Int)->Calls prog 282 #[.slice (some (δ b o)) ts.length cap,ι y,ve,ι ad,.bool true] d (ja (.ok z bn) fb d))
 (ba:∀d y,κ w d->y=((fb-1:Nat):Int)->Calls prog 282 #[.slice (some (δ b o)) ts.length cap,ι y,ve,ι ad,.bool true] d (ja (.ok E an) f d)) :
 Calls prog 282 #[.slice (some (δ b o)) ts.length cap,ι (k:Int),ve,ι ad,.bool true] w (ja (.ok 1 0) f w):=by
 have b6:(k:Int)<(ts.length:Int):=by omega
 have Q:=aa (jw w kd 0 0);have HR:=aa (nx w kd 0 0);have HT:=aa (nw w kd 0 0);have a9:=aa a5;have bb:=aa ba;have bf:=aa a4;have k1:(kd==1)=false:=by simp;omega
 have k2:(kd==2)=false:=by simp;omega
 have c3:(kd==15)=false:=by simp;omega
 have c4:(kd==16)=false:=by simp;omega
 have cv:(kd==14)=false:=by simp;omega
 have c5:(kd==19)=false:=by simp;omega
 clear a4;go_enter func282,ntmps282;go_wp2_with fail;refine(a9 _ _ Q (by omega)).mono ?_;rintro e w1⟨rfl,J⟩;have a0:=aa (Q.trans (J.mono Q.size));have av:=aa (HR.below J HR.lt);have W:=aa (HT.below J HT.lt);have co:w.heap.size+1<w1.heap.size:=W.lt;unfold ee;clear J;go_wp2_with fail;have Y:=aa (a0.alloc a0.size (.cells #[ι z,ι bn,ι 0] 284));have am:=aa (cg.new w1 284 #[ι z,ι bn,ι 0]);refine(bb _ _ Y (by omega)).mono ?_;rintro e I⟨rfl,F⟩;have a1:=aa (Y.trans (F.mono Y.size));have U:=aa ((av.alloc _).below F (av.alloc _).lt);have bs:=aa ((W.alloc _).below F (W.alloc _).lt);have al:=aa (am.below F am.lt);have ci:w1.heap.size<I.heap.size:=al.lt;have b8:w.heap.size<I.heap.size:=by omega
 have cb:¬w.heap.size=I.heap.size:=by omega
 have b9:w.heap.size+1<I.heap.size:=by omega
 unfold ee;obtain⟨⟨t0,t1,t2⟩,_⟩:=bs.ax;obtain⟨⟨r0,r1,r2⟩,f0,f1,f2⟩:=U.ax;obtain⟨⟨b0,b1,b2⟩,_⟩:=al.ax;clear F;go_wp2_with fail;have a2:=aa (a1.alloc a1.size (.cells #[ι E,ι an,ι 0] 284));refine(ai8 kd E an z bn _ bf HG.1 HG.2).mono ?_;rintro e w3⟨rfl,O⟩;rw[HV];have a3:=aa (a2.trans (O.mono a2.size));have V:=aa ((U.alloc _).below O (U.alloc _).lt);have cl:I.heap.size<w3.heap.size:=by have:=O.size;simp at this;omega
 have ca:w.heap.size<w3.heap.size:=by omega
 have cc:¬w.heap.size=w3.heap.size:=by omega
 unfold ee;obtain⟨⟨r0,r1,r2⟩,f0,f1,f2⟩:=V.ax;clear O;go_wp2_with fail;refine(om _ _).mono ?_;rintro e w4⟨rfl,Z⟩;have bt:=aa ((a3.alloc a3.size (.cells #[ι 0,ι 0,ι 9] 284)).trans (Z.mono (by simp;omega)));have ax:=aa ((V.alloc _).below Z (V.alloc _).lt);obtain⟨⟨r0,r1,r2⟩,f0,f1,f2⟩:=ax.ax;clear Z;go_wp2_with fail;refine bodyPost_ret (fm Tryz.results282 _ _ w.heap.size _ _ _ (by rfl) (ax.l7 _ _ _)) rfl ⟨lz (by rfl),((bt.setCell (by simp) _).setCell (by simp) _).setCell (by simp) _⟩
theorem as9(ts:List Tk)(b o cap k f fb:Nat)(kd Y:Int)(Z:Value)(w:ω)(hk:k<ts.length)(b3:1<=k)(hl:ts.length<=100)(a2:3<=kd/\kd<=13)(bt:1<=fb/\fb<=k)(E an:Int)(z bn:Int)(HG:sr (.ok E an)/\sr (.ok z bn))(HV:jf kd E an z bn=.bad 9)(b5:b<w.heap.size)(c0:w.cell? (δ b (o+k*3))=some (ι kd))(c1:w.cell? (δ b (o+k*3+1))=some (ι 0))(c2:w.cell? (δ b (o+k*3+2))=some (ι 0))(bs:ts.length<=cap)
 (a3:∀d y,κ w d->y=((k-1:Nat):Int)->Calls prog 282 #[.slice (some (δ b o)) ts.length cap,ι y,Z,ι Y,.bool false] d (ja (.ok z bn) fb d))
 (a5:∀d y,κ w d->y=((fb-1:Nat):Int)->Calls prog 282 #[.slice (some (δ b o)) ts.length cap,ι y,Z,ι Y,.bool false] d (ja (.ok E an) f d)) :
 Calls prog 282 #[.slice (some (δ b o)) ts.length cap,ι (k:Int),Z,ι Y,.bool false] w (ja (.bad 9) f w):=by
 have b4:(k:Int)<(ts.length:Int):=by omega
 have Q:=aa (jw w kd 0 0);have HR:=aa (nx w kd 0 0);have HT:=aa (nw w kd 0 0);have a4:=aa a3;have a9:=aa a5;have ba:=aa a2;have k1:(kd==1)=false:=by simp;omega
 have k2:(kd==2)=false:=by simp;omega
 have co:(kd==15)=false:=by simp;omega
 have cv:(kd==16)=false:=by simp;omega
 have cl:(kd==14)=false:=by simp;omega
 have c3:(kd==19)=false:=by simp;omega
 clear a2;go_enter func282,ntmps282;go_wp2_with fail;refine(a4 _ _ Q (by omega)).mono ?_;rintro e w1⟨rfl,J⟩;have ax:=aa (Q.trans (J.mono Q.size));have am:=aa (HR.below J HR.lt);have V:=aa (HT.below J HT.lt);have ci:w.heap.size+1<w1.heap.size:=V.lt;unfold ee;clear J;go_wp2_with fail;have W:=aa (ax.alloc ax.size (.cells #[ι z,ι bn,ι 0] 284));have al:=aa (cg.new w1 284 #[ι z,ι bn,ι 0]);refine(a9 _ _ W (by omega)).mono ?_;rintro e I⟨rfl,F⟩;have a0:=aa (W.trans (F.mono W.size));have U:=aa ((am.alloc _).below F (am.alloc _).lt);have bb:=aa ((V.alloc _).below F (V.alloc _).lt);have ad:=aa (al.below F al.lt);have cb:w1.heap.size<I.heap.size:=ad.lt;have b6:w.heap.size<I.heap.size:=by omega
 have b9:¬w.heap.size=I.heap.size:=by omega
 have b7:w.heap.size+1<I.heap.size:=by omega
 unfold ee;obtain⟨⟨t0,t1,t2⟩,_⟩:=bb.ax;obtain⟨⟨r0,r1,r2⟩,f0,f1,f2⟩:=U.ax;obtain⟨⟨b0,b1,b2⟩,_⟩:=ad.ax;clear F;go_wp2_with fail;have a1:=aa (a0.alloc a0.size (.cells #[ι E,ι an,ι 0] 284));refine(ai8 kd E an z bn _ ba HG.1 HG.2).mono ?_;rintro e w3⟨rfl,O⟩;rw[HV];have bf:=aa (a1.trans (O.mono a1.size));have av:=aa ((U.alloc _).below O (U.alloc _).lt);have cc:I.heap.size<w3.heap.size:=by have:=O.size;simp at this;omega
 have b8:w.heap.size<w3.heap.size:=by omega
 have ca:¬w.heap.size=w3.heap.size:=by omega
 unfold ee;obtain⟨⟨r0,r1,r2⟩,f0,f1,f2⟩:=av.ax;clear O;go_wp2_with fail;refine bodyPost_ret (fm Tryz.results282 _ _ w.heap.size _ _ _ (by rfl) ((av.l7 _ _ _).alloc _)) rfl ⟨lz (by rfl),(((bf.setCell (by simp) _).setCell (by simp) _).setCell (by simp) _).alloc (by simp;omega) _⟩
def bda(m:Md)(ts:List Tk)(n:Nat):Prop:=∀(A:Option Addr)(E:Nat)(F:Value)(d:Nat)(x:El)(S:List El)(u:Vl)(I:List Vl)(z:Int)(w:ω),d<n->d<ts.length->ts.length<=100->m.env.length<=1000->td ts (d+1)->lw w (.slice A ts.length E) ts->fe w F m.env->
 (∀t∈ts,t.2.1<=9223372036854775807)->(∀y∈m.env,uj y)->stk ts (d+1)=x::S->vs m ts (d+1)=u::I->z=(d:Int)->
 Calls prog 282 #[.slice A ts.length E,ι z,F,ι m.vars,.bool m.ty] w (ja u x.f w)
theorem ap3{c:Int}(h:sr (.bad c)):c≠0:=by rcases h with h | h | h<;>omega
theorem bao(m:Md)(ts:List Tk)(b o cap k f:Nat)(t:Tk)(y:Vl)(d:Value)(w:ω)(Q:k<ts.length)(U:1<=k)(V:ts.length<=100)(ht:mh t=1)(Y:sr y)(W:b<w.heap.size)(F:w.cell? (δ b (o+k*3))=some (ι t.1))(I:w.cell? (δ b (o+k*3+1))=some (ι t.2.1))(J:w.cell? (δ b (o+k*3+2))=some (ι t.2.2))(O:ts.length<=cap)
 (E:∀Z z,κ w Z->z=((k-1:Nat):Int)->Calls prog 282 #[.slice (some (δ b o)) ts.length cap,ι z,d,ι m.vars,.bool m.ty] Z (ja y f Z)) :
 Calls prog 282 #[.slice (some (δ b o)) ts.length cap,ι (k:Int),d,ι m.vars,.bool m.ty] w (ja (unV t y) f w):=by
 rcases afw ht with rfl | rfl
 . cases y with
   | bad c=>exact as6 ts b o cap k f m.vars m.ty d w Q U V c (ap3 Y) W F I J O E
   | ok k' n =>
    rcases qz Y with rfl | rfl
    . exact avw ts b o cap k f m.vars m.ty d w Q U V n W F I J O E
    . exact avv ts b o cap k f m.vars m.ty d w Q U V n W F I J O E
 . cases y with
   | bad c=>exact as7 ts b o cap k f m.vars m.ty d w Q U V c (ap3 Y) W F I J O E
   | ok k' n =>
    rcases qz Y with rfl | rfl
    . exact avx ts b o cap k f m.vars m.ty d w Q U V n W F I J O E
    . exact avy ts b o cap k f m.vars m.ty d w Q U V n W F I J O E
theorem a9p(m:Md)(ts:List Tk)(b o cap k f fb:Nat)(t:Tk)(x y:Vl)(E:Value)(w:ω)(hk:k<ts.length)(am:1<=k)(hl:ts.length<=100)(ht:mh t=2)(ax:sr x)(a0:sr y)(al:1<=fb/\fb<=k)(av:b<w.heap.size)(V:w.cell? (δ b (o+k*3))=some (ι t.1))(W:w.cell? (δ b (o+k*3+1))=some (ι t.2.1))(Y:w.cell? (δ b (o+k*3+2))=some (ι t.2.2))(ad:ts.length<=cap)
 (F:∀O z,κ w O->z=((k-1:Nat):Int)->Calls prog 282 #[.slice (some (δ b o)) ts.length cap,ι z,E,ι m.vars,.bool m.ty] O (ja y fb O))
 (I:∀O z,κ w O->z=((fb-1:Nat):Int)->Calls prog 282 #[.slice (some (δ b o)) ts.length cap,ι z,E,ι m.vars,.bool m.ty] O (ja x f O)) :
 Calls prog 282 #[.slice (some (δ b o)) ts.length cap,ι (k:Int),E,ι m.vars,.bool m.ty] w (ja (ag2 m.ty t x y) f w):=by
 obtain⟨J,rfl,h3,Z⟩:=afv ht;cases x with
 | bad c=>exact apn ts b o cap k f fb J m.vars m.ty E w hk am hl ⟨h3,Z⟩ al c (ap3 ax) y av V W Y ad F I
 | ok Q U =>
  cases y with
  | bad d=>exact apm ts b o cap k f fb J m.vars m.ty E w hk am hl ⟨h3,Z⟩ al Q U d (ap3 a0) av V W Y ad F I
  | ok bk bn =>
   rw[ax8]
   cases hV:jf J Q U bk bn with
   | ok vk vn =>
    rw[ah (by simp[Vl.code])]
    exact avz ts b o cap k f fb J m.vars m.ty E w hk am hl ⟨h3,Z⟩ al Q U bk bn ⟨ax,a0⟩ vk vn hV av V W Y ad F I
   | bad vc =>
    by_cases h9:vc=9
    . subst h9
      cases a1:m.ty with
      | true =>
       rw[ao (by simp[Vl.code])]
       rw[a1]at F I
       exact as8 ts b o cap k f fb J m.vars E w hk am hl ⟨h3,Z⟩ al Q U bk bn ⟨ax,a0⟩ hV av V W Y ad F I
      | false =>
       rw[ah (by simp)]
       rw[a1]at F I
       exact as9 ts b o cap k f fb J m.vars E w hk am hl ⟨h3,Z⟩ al Q U bk bn ⟨ax,a0⟩ hV av V W Y ad F I
    . rw[ah (by simp[Vl.code];intro _ h;exact absurd h h9)]
      exact av0 ts b o cap k f fb J m.vars m.ty E w hk am hl ⟨h3,Z⟩ al Q U bk bn ⟨ax,a0⟩ vc h9 hV av V W Y ad F I
theorem a4a(m:Md)(ts:List Tk)(b o cap k:Nat)(t:Tk)(O:Value)(w:ω)(F:k<ts.length)(I:ts.length<=100)(Y:m.env.length<=1000)(hE:fe w O m.env)(ht:mh t=0)(J:b<w.heap.size)(d:w.cell? (δ b (o+k*3))=some (ι t.1))(y:w.cell? (δ b (o+k*3+1))=some (ι t.2.1))(z:w.cell? (δ b (o+k*3+2))=some (ι t.2.2))(E:ts.length<=cap) :
 Calls prog 282 #[.slice (some (δ b o)) ts.length cap,ι (k:Int),O,ι m.vars,.bool m.ty] w (ja (og m t) k w):=by
 obtain⟨W,h0,Z⟩:=ace ht;obtain⟨kd,x,a⟩:=t;simp only at W h0 Z d y z;subst W;rcases Z with rfl | ⟨rfl,hx⟩ | ⟨rfl,rfl⟩ | ⟨rfl,rfl⟩
 . exact a9d ts b o cap k x m.vars O w F I m.ty J d y z E
 . unfold og Md.lim;simp only;rw[ah (by omega),ao trivial];cases am:m.ty with
   | true =>
    rw[ao rfl];by_cases Q:x<m.vars
    . rw[ao Q];exact a0p ts b o cap k x m.vars O w F I Q J d y z E
    . rw[ah Q];exact avt ts b o cap k x m.vars O w F I (by omega) J d y z E
   | false =>
    rw[ah dr];obtain⟨eA,V,rfl,al,ad⟩:=hE;by_cases Q:x<(m.env.length:Int)
    . rw[ao Q,ah dr];obtain⟨j,rfl⟩:∃j:Nat,x=(j:Int):=⟨x.toNat,by omega⟩;have U:j<m.env.length:=(by omega);obtain⟨vb,vo,rfl,ak,cv⟩:=ad j m.env[j] (ae U);have hg:m.env.getD ((j:Int).toNat) 0=m.env[j]:=(by rw[Int.toNat_natCast,List.getD,ae U];rfl);rw[hg];exact a0q ts b o cap k m.vars w F I vb vo V m.env.length j m.env[j] Y U ak cv J d y z E
    . rw[ah Q];exact avu ts b o cap k x m.vars w F I eA V m.env.length Y (by omega) J d y z E
 . exact a5f ts b o cap k m.vars O w F I m.ty J d y z E
 . exact a0r ts b o cap k m.vars O w F I m.ty J d y z E
theorem axw(m:Md)(ts:List Tk):∀n,bda m ts n
 | 0=>λA U Y ba x S u VS z w h=>by omega
 | n+1=>λA U Y k x S u VS z w hn hk hl av F hv hE hN am J O W=>by
  subst W;have ih:=axw m ts n;have hg:ts[k]?=some ts[k]:=ae hk;have a5:ts.getD k (0,0,0)=ts[k]:=by simp[List.getD,hg]
  obtain⟨h0,V⟩:=F k (by omega);have ad:=acb m ts k (by omega) (F.mono (by omega));have al:=afr m hN am k (by omega) (F.mono (by omega));rw[aj8]at J;rw[aa3 m hk]at O;rw[a5]at h0 V J O;obtain⟨b,o,rfl,a1,c0,c1,c2,ax⟩:=a18 hv hg;generalize ts[k]=t at *;rcases ot t with c | c | c | c
  . omega
  . rw[a2r _ c]at J;rw[aep _ c]at O;injection J with hx hS;injection O with hu a2;subst hx;subst hu;exact a4a m ts b o U k t Y w hk hl av hE c a1 c0 c1 c2 ax
  . rcases d:stk ts k with _ | ⟨y,Z⟩
    . rw[d,c]at V;simp at V
    . rcases E:vs m ts k with _ | ⟨Q,ak⟩
      . rw[d,E]at ad;simp at ad
      . rw[d,a2q _ _ c]at J;rw[E,aeo _ _ c]at O;injection J with hx hS;injection O with hu a2;subst hx;subst hu;have a0:1<=k:=by
         rcases mf k with rfl | h
         . cases d
         . exact h
        rw[E]at al;exact bao m ts b o U k y.f t Q Y w hk a0 hl c (al Q (by simp)) a1 c0 c1 c2 ax λw' z I W =>
         ih _ U Y (k-1) y Z Q ak z w' (by omega) (by omega) hl av (F.mono (by omega)) (hv.below I) (hE.below I) hN am (by rw[show k-1+1=k by omega];exact d) (by rw[show k-1+1=k by omega];exact E) W
  . rcases d:stk ts k with _ | ⟨y,_ | ⟨a,Z⟩⟩
    . rw[d,c]at V;simp at V
    . rw[d,c]at V;simp at V
    . rcases E:vs m ts k with _ | ⟨Q,_ | ⟨a',ak⟩⟩
      . rw[d,E]at ad;simp at ad
      . rw[d,E]at ad;simp at ad
      . rw[d,a2p _ _ _ c]at J;rw[E,aen _ _ _ c]at O;injection J with hx hS;injection O with hu a2;subst hx;subst hu;have a0:1<=k:=by
         rcases mf k with rfl | h
         . cases d
         . exact h
        have a3:=aaf ts k k (ai _) (F.mono (by omega)) y (a::Z) d;have a9:=afq m ts k k (ai _) (by omega) (F.mono (by omega)) y (a::Z) Q (a'::ak) d E;have a4:1<=y.f:=by
         rcases mf y.f with h | h
         . have h2:=a3.2;rw[h]at h2;cases h2
         . exact h
        rw[E]at al;exact a9p m ts b o U k a.f y.f t a' Q Y w hk a0 hl c (al a' (by simp)) (al Q (by simp)) ⟨a4,by omega⟩ a1 c0 c1 c2 ax
         (λw' z I W=>ih _ U Y (k-1) y (a::Z) Q (a'::ak) z w' (by omega) (by omega) hl av (F.mono (by omega)) (hv.below I) (hE.below I) hN am (by rw[show k-1+1=k by omega];exact d) (by rw[show k-1+1=k by omega];exact E) W)
         (λw' z I W=>ih _ U Y (y.f-1) a Z a' ak z w' (by omega) (by omega) hl av (F.mono (by omega)) (hv.below I) (hE.below I) hN am (by rw[show y.f-1+1=y.f by omega];exact a3.2.symm) (by rw[show y.f-1+1=y.f by omega];exact a9.symm) W)
theorem axv(m:Md)(ts:List Tk)(A:Option Addr)(cap:Nat)(F:Value)(z:Int)(w:ω)(I:ae6 ts=true)(Y:m.env.length<=1000)(hv:lw w (.slice A ts.length cap) ts)(Q:fe w F m.env)(U:∀t∈ts,t.2.1<=9223372036854775807)(W:∀y∈m.env,uj y)(hz:z=(ts.length:Int)-1) :
 Calls prog 282 #[.slice A ts.length cap,ι z,F,ι m.vars,.bool m.ty] w (λe J=>∃f:Nat,ja (ans m ts) f w e J)/\1<=ts.length:=by
 obtain⟨Z,V,ad⟩:=ajv m I;obtain⟨_,_,x,E⟩:=abi I;have O:1<=ts.length:=by
  rcases mf ts.length with h | h
  . rw[h]at E;cases E
  . exact h
 have d:ts.length-1+1=ts.length:=by omega
 exact⟨(axw m ts ts.length A cap F (ts.length-1) x [] (ans m ts) [] z w (by omega) (by omega) Z Y (by rw[d];exact V) hv Q U W (by rw[d];exact E) (by rw[d];exact ad) (by omega)).mono λe J h=>⟨_,h⟩,O⟩
theorem aju(m:Md){ts:List Tk}(h:ae6 ts=false):ans m ts=.bad 2:=by unfold ans;rw[ah (by rw[h];exact dr)]
theorem a10(v:Value)(ts:List Tk)(y:Int)(w:ω)(z:lw w v ts)(Y:ts.length<=1000)(U:∀t∈ts,t.2.1<=9223372036854775807):Calls prog 158 #[v,ι y] w (a6b (ans ⟨true,[],y⟩ ts) w):=by
 cases d:ae6 ts with
 | true=>exact a1z v ts y w z U d
 | false =>have J:=aa (ajm v ts w z (by omega));have O:=aa d;have F:=aa (aju ⟨true,[],y⟩ d);obtain⟨A,V,rfl,W,Q⟩:=z;clear Q d;go_enter func158,ntmps158;go_wp2_with fail;refine J.mono ?_;rintro e Z⟨rfl,E⟩;rw[O.out];have I:=aa E;clear E;go_wp2;go_ret2;rw[F.out];exact⟨I,rfl⟩
theorem a47(v I:Value)(ts:List Tk)(env:List Int)(w:ω)(F:lw w v ts)(hl:ts.length<=1000)(W:fe w I env)(E:env.length<=1000)(Y:∀x∈env,uj x)(Z:∀t∈ts,t.2.1<=9223372036854775807):Calls prog 241 #[v,I] w (ael (ans ⟨false,env,0⟩ ts) w):=by
 cases d:ae6 ts with
 | true=>exact a45 v I ts env w F W E Y Z d
 | false =>have y:=aa ((ag w.heap.size w).alloc (ai _) (.cells #[ι 0,ι 0] 239));have U:=aa (ajm v ts _ (F.below y) (by omega));have V:=aa d;have O:=aa (aju ⟨false,env,0⟩ d);obtain⟨A,ad,rfl,hc,E⟩:=F;clear E d;go_enter func241,ntmps241;go_wp2_with fail;refine U.mono ?_;rintro e w0⟨rfl,z⟩;rw[V.out];have Q:=aa (y.trans (z.mono y.size));have J:=aa ((cg.new w 239 #[ι 0,ι 0]).below z (by simp));obtain⟨⟨r0,r1⟩,f0,f1⟩:=J.eb;clear z;go_wp2_with fail;refine bodyPost_ret (jz Tryz.results241 _ _ w.heap.size _ _ (by rfl) (J.set2 _ _)) rfl ⟨(Q.setCell (by simp) _).setCell (by simp) _,?_⟩;rw[O.out];rfl
theorem aqj(u:Vl):ee u=.agg #[ι u.kind,ι u.num,ι u.code]:=by cases u<;>rfl
theorem azm(v O:Value)(ts:List Tk)(env:List Int)(w:ω)(J:lw w v ts)(hl:ts.length<=1000)(Y:fe w O env)(ax:env.length<=1000)(av:∀x∈env,uj x)(hn:∀t∈ts,t.2.1<=9223372036854775807) :
 Calls prog 265 #[v,O] w λe w'=>e=.returned (.tuple #[.agg #[ι (ans ⟨false,env,0⟩ ts).kind,ι (ans ⟨false,env,0⟩ ts).num],ι (ans ⟨false,env,0⟩ ts).code])/\κ w w':=by
 have F:=aa ((ag w.heap.size w).alloc (ai _) (.cells #[ι 0,ι 0] 239));have HM:=aa (a3i v ts _ (J.below F) hl);cases y:ae6 ts with
 | true =>
  have U:=aa y;have HV:=aa J;obtain⟨A,V,rfl,hc,ad⟩:=J;have HT:=aa (λW z(hb:κ w W) hz=>(axv ⟨false,env,0⟩ ts A V O z W y ax (HV.below hb) (Y.below hb) hn av hz).1);have bb:=(axv ⟨false,env,0⟩ ts A V O _ w y ax HV Y hn av rfl).2;generalize (ans ⟨false,env,0⟩ ts)=a at *;obtain⟨eA,a3,rfl,a4,a2⟩:=Y;clear ad y hn a2;go_enter func265,ntmps265;go_wp2_with fail;refine HM.mono ?_;rintro e w0⟨rfl,d⟩;rw[U.out];have E:=aa (F.trans (d.mono F.size));have I:=aa ((cg.new w 239 #[ι 0,ι 0]).below d (by simp));clear d;go_wp2_with fail;refine(HT _ _ E (by omega)).mono ?_;rintro e Q⟨f,rfl,Z⟩;rw[aqj];have ak:=aa (E.trans (Z.mono E.size));have al:=aa (I.below Z I.lt);have bf:w.heap.size<Q.heap.size:=al.lt;have a0:=aa (ak.alloc ak.size (.cells #[ι a.kind,ι a.num,ι a.code] 284));have am:=aa (al.alloc (.cells #[ι a.kind,ι a.num,ι a.code] 284));have a1:=aa (cg.new Q 284 #[ι a.kind,ι a.num,ι a.code]);clear Z;go_wp2_with fail;generalize a5:Q.heap.size=g1 at *;generalize Q.alloc (.cells #[ι a.kind,ι a.num,ι a.code] 284)=w2 at *;obtain⟨⟨r0,r1⟩,f0,f1⟩:=am.eb;obtain⟨⟨n0,n1,n2⟩,_⟩:=a1.ax;have a9:¬g1=w.heap.size:=by omega
  have ba:¬w.heap.size=g1:=by omega
  go_region;all_goals
   go_wp2_with fail
   refine bodyPost_ret (jz Tryz.results265 _ _ w.heap.size _ _ (by rfl) ((am.drewN 1).set2 _ _)) rfl ⟨rfl,((bx a0 1).setCell (by simp) _).setCell (by simp) _⟩
 | false =>have U:=aa y;have HA:=aa (aju ⟨false,env,0⟩ y);obtain⟨A,V,rfl,hc,ad⟩:=J;clear ad y;go_enter func265,ntmps265;go_wp2_with fail;refine HM.mono ?_;rintro e w0⟨rfl,d⟩;rw[U.out];have E:=aa (F.trans (d.mono F.size));have I:=aa ((cg.new w 239 #[ι 0,ι 0]).below d (by simp));obtain⟨⟨r0,r1⟩,f0,f1⟩:=I.eb;clear d;go_wp2_with fail;refine bodyPost_ret (jz Tryz.results265 _ _ w.heap.size _ _ (by rfl) (I.set2 _ _)) rfl ⟨?_,(E.setCell (by simp) _).setCell (by simp) _⟩;rw[HA.out];rfl
def sq(t:Tk):Prop:=t.2.1<=9223372036854775807
theorem bcd(c:UInt8):c.toNat<256:=c.toNat_lt
theorem aqo{l:List UInt8}{k e:Nat}{t:Tk}(h:i6 l k=some (t,e)):sq t:=by
 unfold i6 jm at h;unfold sq;split at h
 . split at h
   . simp only[Option.some.injEq,Prod.mk.injEq]at h;rw[<-h.1];simp only;omega
   . cases h
 . split at h
   . split at h
     . simp only[Option.some.injEq,Prod.mk.injEq]at h;rw[<-h.1];have:=bcd (l.getD k 0);simp only;omega
     . rw[gm]at h;obtain⟨j,_,h⟩:=h;simp only[Prod.mk.injEq]at h;rw[<-h.1];simp only;omega
   . split at h
     . rw[gm]at h;obtain⟨j,_,h⟩:=h;simp only[Prod.mk.injEq]at h;rw[<-h.1];simp only;omega
     . rw[gm]at h;obtain⟨j,_,h⟩:=h;simp only[Prod.mk.injEq]at h;rw[<-h.1];simp only;omega
theorem acl(l:List UInt8):∀(n k:Nat)(acc:List Tk),(∀t∈acc,sq t)->∀t∈(pa n l k acc).1,sq t
 | 0,k,acc,h=>by rw[pa];exact h
 | n+1,k,acc,h=>by
  rw[pa];by_cases z:k<l.length
  . rw[ao z];by_cases E:nz (l.getD k 0)=true
    . rw[ao E];exact acl l n (k+1) acc h
    . rw[ah E];cases y:i6 l k with
      | none=>intro t y;cases y
      | some x =>
       refine acl l n x.2 (acc ++ [x.1]) (λt F=>?_);rcases j9.1 F with d | d
       . exact h t d
       . obtain rfl:=cf.1 d;exact aqo y
  . rw[ah z];exact h
theorem yh{o:List Tk}{t:Tk}(h:∀x∈o,sq x)(y:sq t):∀x∈o ++ [t],sq x:=by
 intro x z;rcases j9.1 z with d | d
 . exact h x d
 . obtain rfl:=cf.1 d;exact y
theorem aja(k:Int):sq (k,0,0):=by unfold sq;simp only;omega
theorem ark(ts:List Tk)(ad:∀t∈ts,sq t):∀(n Q k:Nat)(Y:List Tk)(z:Nat)(o:List Tk),rd ts n Q k Y=some (.ok z o)->(∀t∈Y,sq t)->∀t∈o,sq t
 | 0,_,_,_,_,_,h,_=>by rw[rd]at h;cases h
 | n+1,Q,k,Y,kk,oo,h,F=>by
  have E:=ark ts ad n;have ak:∀k,sq (jt ts k,num ts k,0):=λk=>by
   unfold sq num
   simp only
   cases hg:ts[k]? with
   | none=>simp
   | some t=>exact ad t (pk hg)
  rw[rd]at h;by_cases I:Q=6
  . rw[ao I]at h;by_cases U:jt ts k=4
    . rw[ao U]at h;rcases fc h with ⟨z,y,d⟩ | ⟨z,o,y,d⟩
      . cases d
      . injection d with d;injection d with O J;subst J;exact yh (E _ _ _ _ _ y F) (aja 19)
    . rw[ah U]at h;by_cases Z:yp (jt ts k)=true
      . rw[ao Z]at h;injection h with h;injection h with O J;subst J;exact yh F (ak k)
      . rw[ah Z]at h;by_cases c3:jt ts k=17
        . rw[ao c3]at h;rcases fc h with ⟨z,y,d⟩ | ⟨z,o,y,d⟩
          . cases d
          . by_cases V:jt ts z=18
            . rw[ao V]at d;injection d with d;injection d with O J;subst J;exact E _ _ _ _ _ y F
            . rw[ah V]at d;injection d with d;cases d
        . rw[ah c3]at h;injection h with h;cases h
  . rw[ah I]at h;by_cases O:Q=3
    . rw[ao O]at h;by_cases U:jt ts k=14
      . rw[ao U]at h;rcases fc h with ⟨z,y,d⟩ | ⟨z,o,y,d⟩
        . cases d
        . injection d with d;injection d with O J;subst J;exact yh (E _ _ _ _ _ y F) (aja 14)
      . rw[ah U]at h;rcases fc h with ⟨z,y,d⟩ | ⟨z,o,y,d⟩
        . cases d
        . by_cases V:lvl (jt ts z)=3
          . rw[ao V]at d;rcases fc d with ⟨al,h5,I⟩ | ⟨al,o',h5,I⟩
            . cases I
            . injection I with I;injection I with h7 W;subst W;exact yh (E _ _ _ _ _ h5 (E _ _ _ _ _ y F)) (aja _)
          . rw[ah V]at d;injection d with d;injection d with h7 W;subst W;exact E _ _ _ _ _ y F
    . rw[ah O]at h;by_cases hl:Q<6
      . rw[ao hl]at h;rcases fc h with ⟨z,y,d⟩ | ⟨z,o,y,d⟩
        . cases d
        . exact E _ _ _ _ _ d (E _ _ _ _ _ y F)
      . rw[ah hl]at h;by_cases hc:lvl (jt ts k)=Q-10/\k<ts.length
        . rw[ao hc]at h;rcases fc h with ⟨z,y,d⟩ | ⟨z,o,y,d⟩
          . cases d
          . exact E _ _ _ _ _ d (yh (E _ _ _ _ _ y F) (aja _))
        . rw[ah hc]at h;injection h with h;injection h with h7 W;subst W;exact F
theorem tq{s:List UInt8}{o:List Tk}(h:fi s=.toks o):o.length<=100/\(∀t∈o,t.2.1<=9223372036854775807)/\s.length<=200/\(pc s 0 []).2=-1/\adp (pc s 0 []).1=some (.ok (pc s 0 []).1.length o):=by
 unfold fi at h;split at h
 . rename_i F;unfold ax9 at h;split at h
   . rename_i I;obtain⟨R,y⟩:=abe (pc s 0 []).1;rw[y]at h;cases R with
     | bad k=>cases h
     | ok k J =>
      unfold adh at h;simp only at h;split at h
      . rename_i E;split at h
        . rename_i z;injection h with h;subst h;subst E;exact⟨z,ark _ (λt d=>acl s _ 0 [] (λt d=>by cases d) t d) _ _ _ _ _ _ y (λt d=>by cases d),F,I,y⟩
        . cases h
      . cases h
   . cases h
 . cases h
def a6k(a:Ans)(env:List Int)(w:ω)(e:Ending)(d:ω):Prop :=
 match a with
  | .toks o=>ael (ans ⟨false,env,0⟩ o) w e d
  | .form k=>κ w d/\∃g,e=.returned (.tuple #[.agg #[ι 0,ι 0],.iface 95 (φ g 0)])/\w.heap.size<=g/\cg d g 97 #[ι k,ι 2]
  | .large=>κ w d/\e=.returned (.tuple #[.agg #[ι 0,ι 0],.iface 93 (ι 3)])
def a97:Vl->Value
 | .ok _ _=>.nilIface
 | .bad c=>.iface 93 (ι c)
theorem ael.val{a:Vl}{w z:ω}{e:Ending}(h:ael a w e z):κ w z/\∃d,e=.returned (.tuple #[.agg #[ι a.kind,ι a.num],d])/\d=a97 a:=by
 obtain⟨y,h⟩:=h;cases a with
 | ok k n=>exact ⟨y,_,h,rfl⟩
 | bad c=>exact ⟨y,_,h,rfl⟩
theorem ael.baf{a:Vl}{w F:ω}{e:Ending}{d:Value}(y:κ w F)(E:d=a97 a)(z:e=.returned (.tuple #[.agg #[ι a.kind,ι a.num],d])):ael a w e F:=by
 cases a with
 | ok k n=>subst E;exact ⟨y,z⟩
 | bad c=>subst E;exact ⟨y,z⟩
theorem zw(s:ByteArray)(J:Value)(env:List Int)(w:ω)(hL:ju w)(hs:s.size<=1000000)(Z:fe w J env)(a4:env.length<=1000)(ad:∀x∈env,uj x):Calls prog 261 #[.string s,J] w (a6k (fi s.data.toList) env w):=by
 have E:=aa ((ag w.heap.size w).alloc (ai _) (.cells #[ι 0,ι 0] 239));have HP:=aa (ana s _ (hL.after E) hs);have HE:=aa Z;have a0:=aa ad;have a2:=aa (λo=>tq (s:=s.data.toList) (o:=o));have bb:=l3;have a9:=λp W=>pq p W;have bf:=λp W=>pn p W;have O:=aa (cg.new w 239 #[ι 0,ι 0]);generalize fi s.data.toList=a at *;clear hL Z ad;go_enter func261,ntmps261;go_wp2_with fail;refine HP.mono ?_;rintro e w1⟨F,z⟩;have y:=aa (E.trans (F.mono E.size));have d:=aa (O.below F O.lt);have bk:(w.alloc (.cells #[ι 0,ι 0] 239)).heap.size=w.heap.size+1:=by simp
 clear F;cases a with
 | toks o =>obtain ⟨v,rfl,al⟩:=z;obtain⟨a5,am,_⟩:=a2.out o rfl;have HV:=aa (a47 v J o env w1 (lw.fg al) (by omega) (HE.below y) a4 a0 am);clear al am a5;go_wp2_with fail;refine HV.mono ?_;intro e w2 hp;obtain⟨I,er,rfl,ak⟩:=hp.val;have av:=aa (y.trans (I.mono y.size));have Q:=aa (d.below I d.lt);have a1:=aa ak;obtain⟨⟨r0,r1⟩,U,V⟩:=Q.eb;clear I hp ak;go_wp2_with fail;refine bodyPost_ret (jz Tryz.results261 _ _ w.heap.size _ _ (by rfl) (Q.set2 _ _)) rfl (ael.baf ((av.setCell (by simp) _).setCell (by simp) _) a1 rfl)
 | form k =>
  obtain⟨g,rfl,hg,Y⟩:=z;have HG:=aa hg;have ax:=aa Y;obtain⟨⟨r0,r1⟩,U,V⟩:=d.eb;clear hg Y;go_wp2_with fail;have ba:w.heap.size<g:=by have:=HG.out;omega
  refine bodyPost_ret (jz Tryz.results261 _ _ w.heap.size _ _ (by rfl) (d.set2 _ _)) rfl ⟨(y.setCell (by simp) _).setCell (by simp) _,g,rfl,by omega,?_⟩;exact(cz _ (δ w.heap.size 1) _ g (by simp;omega)).trans ((cz _ (δ w.heap.size 0) _ g (by simp;omega)).trans ax)
 | large =>have a3:e=.returned (.tuple #[.slice none 0 0,.iface 93 (ι 3)]):=z;subst a3;obtain⟨⟨r0,r1⟩,U,V⟩:=d.eb;clear z;go_wp2_with fail;refine bodyPost_ret (jz Tryz.results261 _ _ w.heap.size _ _ (by rfl) (d.set2 _ _)) rfl ⟨(y.setCell (by simp) _).setCell (by simp) _,rfl⟩
def eu(s:ByteArray)(d y:Int):Bool :=
 match fi s.data.toList with
 | .toks o=>(match ans ⟨true,[],d⟩ o with
  | .ok k _=>k==y
  | .bad _=>false)
 | _=>false
theorem asz(w:ω):(binOp .eql 30 .nilIface .nilIface).run prog w=.ok (.bool true) w:=by kernel_rfl
theorem amo(p:Value)(w:ω):(binOp .eql 30 (.iface 93 p) .nilIface).run prog w=.ok (.bool false) w:=by kernel_rfl
theorem air(s:ByteArray)(E O:Int)(w:ω)(Q:ju w)(hs:s.size<=1000000) :
 Calls prog 95 #[.string s,ι E,ι O] w λe w'=>e=.returned (.bool (eu s E O))/\κ w w':=by
 have U:=aa (ana s w Q hs);have al:=aa (λo=>tq (s:=s.data.toList) (o:=o));have y:eu s E O=eu s E O:=rfl;conv at y=>rhs;unfold eu
 generalize eu s E O=R at *;generalize fi s.data.toList=a at *;have a1:=l3;have a0:=λp W=>pq p W;have a2:=λp W=>pn p W;have ax:=asz;have av:=λp W=>amo p W;cases a with
 | toks o =>
  have I:=aa y
  clear y Q
  go_enter func95,ntmps95
  go_wp2_with fail
  refine U.mono ?_
  rintro e V⟨d,v,rfl,ad⟩
  obtain⟨am,ak,_⟩:=al.out o rfl
  have HT:=aa (a10 v o E V (lw.fg ad) (by omega) ak)
  have F:=aa d
  clear d ad ak am
  go_wp2_with fail
  refine HT.mono ?_
  rintro e w2⟨Z,z⟩
  have Y:=aa (F.trans (Z.mono F.size))
  generalize ans ⟨true,[],E⟩ o=b at *
  clear Z
  cases b with
  | ok k n =>
   have J:e=.returned (.tuple #[ι k,.nilIface]):=z
   subst J
   clear z
   go_wp2
   go_ret
   exact⟨az (by rw[I.out]),Y⟩
  | bad c =>
   have J:e=.returned (.tuple #[ι 0,.iface 93 (ι c)]):=z
   subst J
   clear z
   go_wp2
   go_ret
   exact⟨az (by rw[I.out]),Y⟩
 | form k =>have I:=aa y;clear y Q;go_enter func95,ntmps95;go_wp2_with fail;refine U.mono ?_;rintro e V⟨d,g,rfl,hg,hB⟩;have F:=aa d;clear d hg hB;go_wp2;go_ret;exact⟨az (by rw[I.out]),F⟩
 | large =>have I:=aa y;clear y Q;go_enter func95,ntmps95;go_wp2_with fail;refine U.mono ?_;rintro e V⟨d,z⟩;have J:e=.returned (.tuple #[.slice none 0 0,.iface 93 (ι 3)]):=z;subst J;have F:=aa d;clear d z;go_wp2;go_ret;exact⟨az (by rw[I.out]),F⟩
abbrev fk(a:Ac):Obj:=.cells #[ι a.kind,ι a.n,ι a.m,.string a.expr] 92
abbrev tc(a:Ac):Value:=.agg #[ι a.kind,ι a.n,ι a.m,.string a.expr]
theorem un(s:ByteArray):s.toList.isEmpty=decide (s.size=0):=by rw[Lib.toList_data,Lib.size_eq];cases s.data.toList<;>simp
theorem a9v(a:Ac)(Q:Int)(w:ω)(hL:ju w)(hs:a.expr.size<=1000000)(hv:-1000<=Q)(ad:Q<=1000) :
 Calls prog 159 #[tc a,ι Q] w λe O=>e=.returned (.bool (ai7 eu Q a))/\κ w O:=by
 have J:=aa (ap w (fk a));have Y:=aa (air a.expr Q 1 _ (hL.after J) hs);have I:ai7 eu Q a=ai7 eu Q a:=rfl;conv at I=>rhs;unfold ai7
 generalize ai7 eu Q a=R at *;generalize eu a.expr Q 1=ty at *;obtain⟨k,n,m,ex⟩:=a;simp only at I Y J ⊢;clear hL;have hk:k=1\/k=2\/k=3\/k=4\/k=5\/(k≠1/\k≠2/\k≠3/\k≠4/\k≠5):=by omega
 rcases hk with rfl | rfl | rfl | rfl | rfl | ⟨Z,k2,k3,k4,k5⟩
 . rw[ao rfl]at I;have F:=aa I;clear I;cases z:m9 n 0 (Q-1) with
   | false =>have d:=aa z;clear z;go_enter func159,ntmps159;go_wp2_with fail;refine(dx _ _ _ _).mono ?_;rintro e O⟨rfl,rfl⟩;rw[d.out];go_wp2;go_ret;exact⟨az (by rw[F.out];simp[d.out]),J⟩
   | true =>
    have d:=aa z;clear z;by_cases y:m=0
    . have U:(m==0)=true:=(by simpa using y);have E:=aa y;clear y;go_enter func159,ntmps159;go_wp2_with fail;refine(dx _ _ _ _).mono ?_;rintro e O⟨rfl,rfl⟩;rw[d.out];go_wp2_with fail;refine Y.mono ?_;rintro e w1⟨rfl,V⟩;have W:=aa (aj V);clear V;go_wp2;go_ret;exact⟨az (by rw[F.out];simp[d.out,E.out]),W⟩
    . have U:(m==0)=false:=(by simpa using y);have E:=aa y;clear y;go_enter func159,ntmps159;go_wp2_with fail;refine(dx _ _ _ _).mono ?_;rintro e O⟨rfl,rfl⟩;rw[d.out];go_wp2;go_ret;exact⟨az (by rw[F.out];simp[d.out,E.out]),J⟩
 . rw[ah (by decide),ao (.inl rfl)]at I;have F:=aa I;clear I;cases z:m9 n 1 1000 with
   | false =>have d:=aa z;clear z;go_enter func159,ntmps159;go_wp2_with fail;refine(dx _ _ _ _).mono ?_;rintro e O⟨rfl,rfl⟩;rw[d.out];go_wp2;go_ret;exact⟨az (by rw[F.out];simp[d.out]),J⟩
   | true =>
    have d:=aa z;clear z;by_cases y:m=0
    . have U:(m==0)=true:=(by simpa using y);have E:=aa y;clear y;go_enter func159,ntmps159;go_wp2_with fail;refine(dx _ _ _ _).mono ?_;rintro e O⟨rfl,rfl⟩;rw[d.out];go_wp2;go_ret;exact⟨az (by rw[F.out,d.out,<-un];simp[E.out]),J⟩
    . have U:(m==0)=false:=(by simpa using y);have E:=aa y;clear y;go_enter func159,ntmps159;go_wp2_with fail;refine(dx _ _ _ _).mono ?_;rintro e O⟨rfl,rfl⟩;rw[d.out];go_wp2;go_ret;exact⟨az (by rw[F.out];simp[d.out,E.out]),J⟩
 . rw[ah (by decide),ah (by decide),ao rfl]at I;have F:=aa I;clear I;cases z:m9 n 1 1000 with
   | false =>have d:=aa z;clear z;go_enter func159,ntmps159;go_wp2_with fail;refine(dx _ _ _ _).mono ?_;rintro e O⟨rfl,rfl⟩;rw[d.out];go_wp2;go_ret;exact⟨az (by rw[F.out];simp[d.out]),J⟩
   | true =>
    have d:=aa z
    clear z
    cases y:m9 m 0 1000 with
    | false =>
     have E:=aa y
     clear y
     go_enter func159,ntmps159
     go_wp2_with fail
     refine(dx _ _ _ _).mono ?_
     rintro e O⟨rfl,rfl⟩
     rw[d.out]
     go_wp2_with fail
     refine(dx _ _ _ _).mono ?_
     rintro e O⟨rfl,rfl⟩
     rw[E.out]
     go_wp2
     go_ret
     exact⟨az (by rw[F.out];simp[d.out,E.out]),J⟩
    | true =>
     have E:=aa y
     clear y
     go_enter func159,ntmps159
     go_wp2_with fail
     refine(dx _ _ _ _).mono ?_
     rintro e O⟨rfl,rfl⟩
     rw[d.out]
     go_wp2_with fail
     refine(dx _ _ _ _).mono ?_
     rintro e O⟨rfl,rfl⟩
     rw[E.out]
     go_wp2_with fail
     refine Y.mono ?_
     rintro e w1⟨rfl,V⟩
     have W:=aa (aj V)
     clear V
     go_wp2
     go_ret
     exact⟨az (by rw[F.out];simp[d.out,E.out]),W⟩
 . rw[ah (by decide),ao (.inr rfl)]at I;have F:=aa I;clear I;cases z:m9 n 1 1000 with
   | false =>have d:=aa z;clear z;go_enter func159,ntmps159;go_wp2_with fail;refine(dx _ _ _ _).mono ?_;rintro e O⟨rfl,rfl⟩;rw[d.out];go_wp2;go_ret;exact⟨az (by rw[F.out];simp[d.out]),J⟩
   | true =>
    have d:=aa z;clear z;by_cases y:m=0
    . have U:(m==0)=true:=(by simpa using y);have E:=aa y;clear y;go_enter func159,ntmps159;go_wp2_with fail;refine(dx _ _ _ _).mono ?_;rintro e O⟨rfl,rfl⟩;rw[d.out];go_wp2;go_ret;exact⟨az (by rw[F.out,d.out,<-un];simp[E.out]),J⟩
    . have U:(m==0)=false:=(by simpa using y);have E:=aa y;clear y;go_enter func159,ntmps159;go_wp2_with fail;refine(dx _ _ _ _).mono ?_;rintro e O⟨rfl,rfl⟩;rw[d.out];go_wp2;go_ret;exact⟨az (by rw[F.out];simp[d.out,E.out]),J⟩
 . rw[ah (by decide),ah (by decide),ah (by decide),ao rfl]at I;have F:=aa I;clear I;by_cases z:n=0
   . have b1:(n==0)=true:=(by simpa using z);have d:=aa z;clear z;by_cases y:m=0
     . have U:(m==0)=true:=(by simpa using y);have E:=aa y;clear y;go_enter func159,ntmps159;go_wp2_with fail;refine Y.mono ?_;rintro e w1⟨rfl,V⟩;have W:=aa (aj V);clear V;go_wp2;go_ret;exact⟨az (by rw[F.out];simp[d.out,E.out]),W⟩
     . have U:(m==0)=false:=(by simpa using y);have E:=aa y;clear y;go_enter func159,ntmps159;go_wp2;go_ret;exact⟨az (by rw[F.out];simp[d.out,E.out]),J⟩
   . have b1:(n==0)=false:=(by simpa using z);have d:=aa z;clear z;go_enter func159,ntmps159;go_wp2;go_ret;exact⟨az (by rw[F.out];simp[d.out]),J⟩
 . rw[ah Z,ah (by simp[k2,k4]),ah k3,ah k5]at I;have F:=aa I;have b1:(k==1)=false:=(by simpa using Z);have U:(k==2)=false:=(by simpa using k2);have b3:(k==3)=false:=(by simpa using k3);have b4:(k==4)=false:=(by simpa using k4);have b5:(k==5)=false:=(by simpa using k5);clear I Z k2 k3 k4 k5;go_enter func159,ntmps159;go_wp2;go_ret;exact⟨az F.symm,J⟩
def ua(l:List Ac):Prop:=∀(i:Nat),i<l.length->(l.getD i acx).expr.size<=1000000
theorem al6(v:Value)(l:List Ac)(d:Int)(w:ω)(hL:ju w)(hA:oc w v l)(hl:dw l.length)(hs:ua l)(hv:-1000<=d)(a9:d<=1000) :
 Calls prog 96 #[v,ι d] w λe w'=>e=.returned (.bool (aby eu d l))/\κ w w':=by
 unfold dw at hl;obtain⟨A,ba,rfl,bb,U⟩:=hA;by_cases Q:5<l.length
 . have hd:decide ((5:Int)<(l.length:Int))=true:=(by simp;omega);have a5:decide (5<l.length)=true:=(by simpa using Q);have HR:Hid (aby eu d l=false):=aa (by unfold aby;rw[show decide (l.length<=5)=false by simp;omega];rfl);clear U;go_enter func96,ntmps96;go_wp2;go_ret;exact⟨az HR.symm,ag _ _⟩
 . have hd:decide ((5:Int)<(l.length:Int))=false:=(by simp;omega);have a5:decide (5<l.length)=false:=(by simpa using Q);have bf:l.length<=5:=(by omega);have HE:=aa U;have av:=aa (λ(W:ω)(a:Ac)(y:κ w W)(h:a.expr.size<=1000000)=>a9v a d W (hL.after y) h hv a9);have HS:=aa hs;have a3:Hid ((∀i,i<l.length->ai7 eu d (l.getD i acx)=true)->aby eu d l=true):=aa (λh=>by unfold aby;rw[show decide (l.length<=5)=true by simp;omega,nh h];rfl);have a0:Hid (∀i,i<l.length->ai7 eu d (l.getD i acx)=false->aby eu d l=false):=aa (λi hi h=>by unfold aby;rw[oa i hi h];simp);clear U Q hL hs;go_enter func96,ntmps96;go_wp2_with fail;go_loopw [12] (λi wr=>∃k:Nat,k<=l.length/\i=ι (k:Int)/\Hid (∀j,j<k->ai7 eu d (l.getD j acx)=true)/\κ w wr) (λi _=>l.length-(intOf i).toNat)
   case atStart=>exact ⟨0,ar _,rfl,aa (λj hj=>by omega),ag _ _⟩
   case round =>
    obtain⟨k,hk,rfl,Z,y⟩:=hrel;obtain⟨J,rfl⟩:∃J:ω,J=wr:=⟨_,rfl⟩;by_cases V:k<l.length
    . have al:l[k]?=some (l.getD k acx):=(by simp[List.getD,ae V]);obtain⟨b,o,rfl,a4,hc⟩:=HE.out k _ al;obtain⟨c0,c1,c2,c3⟩:=aqd.keeps w J b _ _ y a4 hc;have am:=HS.out k V;have ak:=a0.out k V;have ad:ai7 eu d (l.getD k acx)=true->∀j,j<k+1->ai7 eu d (l.getD j acx)=true:=λh j hj=>by
       by_cases he:j=k
       . rw[he];exact h
       . exact Z j (by omega)
      generalize l.getD k acx=a at *;have ax:=aa (ap J (fk a));have E:=aa (y.trans (ax.mono y.size));have Y:=aa (av _ a E am);have a1:=aa ak;have a2:=aa ad;clear al hc am ak ad;cases I:ai7 eu d a with
      | true =>
       have z:=aa I;clear I;go_wp2_with fail;refine Y.mono ?_;rintro e w1⟨rfl,F⟩;have O:=aa (E.trans (F.mono E.size));rw[z.out];clear F;go_wp2;go_roundw
       case rel=>exact ⟨k+1,by omega,by go_num,aa (a2 z),O⟩
       case measure=>simp[intOf];omega
      | false =>have z:=aa I;clear I;go_wp2_with fail;refine Y.mono ?_;rintro e w1⟨rfl,F⟩;have O:=aa (E.trans (F.mono E.size));rw[z.out];clear F;go_wp2;go_ret;exact⟨az (a1 z).symm,O⟩
    . obtain rfl:k=l.length:=(by omega);go_wp2;go_ret;exact⟨az (a3 Z).symm,y⟩
theorem aue(s:Nat)(vs vt:Value)(C:Ch)(w:ω)(hL:ju w)(hC:d8 w vs vt C)(hl:dw C.ab.length)(hs:s<C.ab.length)(hv:-1000<=C.vars)(ax:C.vars<=1000)
 (he:dw (aq C.ab s).kv.length)(am:ua (aq C.ab s).kv)(hx:dw (aq C.ab s).me.length)(a0:ua (aq C.ab s).me) :
 Calls prog 91 #[.agg #[ι C.vars,vs,vt],ι (s:Int)] w λe V=>e=.returned (.bool (aa8 eu C.ab C.vars s))/\κ w V:=by
 unfold dw at hl;obtain⟨b,o,a2,vi,ve,vx,rfl,bf,bk,a9,a5⟩:=hC.st hs;obtain⟨c0,c1,c2,c3,c4⟩:=a9;obtain⟨av,ad,ak⟩:=a5;obtain⟨iA,ba,eA,a3,xA,bb,rfl,rfl,rfl⟩:=aaz.slices ⟨av,ad,ak⟩;have y:aa8 eu C.ab C.vars (s:Int)=aa8 eu C.ab C.vars (s:Int):=rfl;conv at y=>rhs;unfold aa8
 generalize aa8 eu C.ab C.vars (s:Int)=R at *;generalize (aq C.ab (s:Int)).kind=K at *;generalize (aq C.ab (s:Int)).par=P at *;generalize (aq C.ab (s:Int)).ip.length=il at *;generalize (aq C.ab (s:Int)).kv=d at *;generalize (aq C.ab (s:Int)).me=lx at *;have Y:=aa (ad6 w (bu C.vars (.slice (some (δ b o)) C.ab.length a2) vt) (qc K P (.slice iA il ba) (.slice eA d.length a3) (.slice xA lx.length bb)));have HE:=aa (λ(W:ω)(U:κ w W)=>al6 _ d C.vars W (hL.after U) (ad.below U) he am hv ax);have HX:=aa (λ(W:ω)(U:κ w W)=>al6 _ lx C.vars W (hL.after U) (ak.below U) hx a0 hv ax);unfold dw at he hx;clear hC hL av ad ak am a0;cases F:ct K with
 | true =>
  rw[ao F]at y;have Q:=aa y;have O:=aa F;clear y F;by_cases z:d.length=0
  . have a4:((d.length:Int)==0)=true:=(by simp[z]);have H0:=aa z;clear z;go_enter func91,ntmps91;go_wp2_with (go_at_call 153;refine (ei _ _).mono ?_;rintro e V⟨rfl,rfl⟩;rw[O.out]);go_ret;exact⟨az (by rw[Q.out,show decide (d.length=0)=true by simp[H0.out],Bool.true_and];exact ao6 _ 0),Y⟩
  . have a4:((d.length:Int)==0)=false:=(by simp;intro h;exact z (by simp[h]));have H0:=aa z;clear z;go_enter func91,ntmps91;go_wp2_with (go_at_call 153;refine (ei _ _).mono ?_;rintro e V⟨rfl,rfl⟩;rw[O.out]);go_ret;exact⟨az (by rw[Q.out,show decide (d.length=0)=false by simpa using H0.out,sw]),Y⟩
 | false =>
  rw[ah (by rw[F];simp)]at y
  have Q:=aa y
  have O:=aa F
  clear y F
  cases Z:aby eu C.vars d with
  | false =>
   have I:=aa Z
   clear Z
   go_enter func91,ntmps91
   go_wp2_with fail
   refine(ei _ _).mono ?_
   rintro e V⟨rfl,rfl⟩
   rw[O.out]
   go_wp2_with fail
   refine(HE _ Y).mono ?_
   rintro e w1⟨rfl,E⟩
   have J:=aa (cq E)
   rw[I.out]
   clear E
   go_wp2
   go_ret
   exact⟨az (by rw[Q.out,I.out,sw]),J⟩
  | true =>
   have I:=aa Z
   clear Z
   go_enter func91,ntmps91
   go_wp2_with fail
   refine(ei _ _).mono ?_
   rintro e V⟨rfl,rfl⟩
   rw[O.out]
   go_wp2_with fail
   refine(HE _ Y).mono ?_
   rintro e w1⟨rfl,E⟩
   obtain⟨⟨x0,x1,x2⟩,y0,y1,y2,y3,y4⟩:=oq E
   have J:=aa (cq E)
   rw[I.out]
   clear E
   go_wp2_with fail
   refine(HX _ J).mono ?_
   rintro e w2⟨rfl,al⟩
   have a1:=aa (J.trans (al.mono J.size))
   clear al
   go_wp2
   go_ret
   exact⟨az (by rw[Q.out,I.out,Bool.true_and]),a1⟩
theorem ank(L:List Int):((L.length:Int)==0)=decide (L.length=0):=ao6 _ 0
theorem ajl{w:ω}{B:Nat}{v:Value}{L:List Int}(h:w.ownsRow B 3 1 v L.length (bg L)):∃A cap,v=.slice A L.length cap:=by
 rcases h.2 with ⟨d,y⟩ | ⟨g,cap,z,d,_⟩
 . exact⟨none,0,by rw[d,y]⟩
 . exact⟨_,_,d⟩
theorem a7l(s:Nat)(vs vt:Value)(C:Ch)(w:ω)(hL:ju w)(hC:d8 w vs vt C)(hl:C.ab.length<=1000)(hs:s<C.ab.length)(hv:-1000<=C.vars)(b5:C.vars<=1000)
 (he:dw (aq C.ab s).kv.length)(bs:ua (aq C.ab s).kv)(hx:dw (aq C.ab s).me.length)(bt:ua (aq C.ab s).me) :
 Calls prog 42 #[.agg #[ι C.vars,vs,vt],ι (s:Int)] w λe w'=>e=.returned (ι (stF eu C.ab C.vars s))/\κ w w':=by
 have a5:dw C.ab.length:=by unfold dw;omega
 have HB:=aa (ap w (bu C.vars vs vt));have H1:=aa (λ(W:ω)(hb:κ w W)=>ar2 C.vars s vs vt C W (hC.below hb) a5 hs);have H2:=aa (λ(W:ω)(hb:κ w W)=>au3 C.vars s vs vt C W (hC.below hb) a5 hs);have H3:=aa (λ(W:ω)(hb:κ w W) hp=>avi C.vars s vs vt C W (hC.below hb) a5 hs hp);have H4:=aa (λ(W:ω)(hb:κ w W)=>az4 C.vars s vs vt C W (hC.below hb) a5 hs);have H5:=aa (λ(W:ω)(hb:κ w W)=>ar5 C.vars s vs vt C W (hC.below hb) hl);have H6:=aa (λ(W:ω)(hb:κ w W)=>a82 C.vars s vs vt C W (hC.below hb) a5 hs);have H7:=aa (λ(W:ω)(hb:κ w W)=>aue s vs vt C W (hL.after hb) (hC.below hb) a5 hs hv b5 he bs hx bt);have hR:stF eu C.ab C.vars (s:Int)=stF eu C.ab C.vars (s:Int):=rfl;conv at hR=>rhs;unfold stF
 generalize stF eu C.ab C.vars (s:Int)=R at *;generalize aa8 eu C.ab C.vars (s:Int)=b7 at *;generalize amn C.ab (s:Int)=b6 at *;have ba:Hid ((lj C.ab (s:Int)).length<=1000):=aa (by unfold lj;have:=aam C.ab (s:Int) C.ab.length;omega);generalize lj C.ab (s:Int)=L at *;generalize ae5 C.ab (s:Int)=b4 at *;generalize zn C.ab (s:Int)=b3 at *;generalize ahq C.ab (s:Int)=b2 at *;generalize ain C.ab (s:Int)=b1 at *;have HR:=aa hR;clear hR hL hC hs bs bt he hx;cases b1 with
 | false =>have E:Hid (κ (w.alloc (bu C.vars vs vt)) (w.alloc (bu C.vars vs vt))):=aa (ag _ _);go_enter func42,ntmps42;go_wp2_with fail;refine(H1 _ (aj E)).mono ?_;rintro e w1⟨rfl,V⟩;have F:=E.trans (V.mono E.size);obtain⟨d,y,z⟩:=bc F;have I:=aa F;clear V F;go_wp2;go_ret;exact⟨cw (by rw[HR.out];rfl),aj I⟩
 | true =>
  cases b2 with
  | false =>
   have E:Hid (κ (w.alloc (bu C.vars vs vt)) (w.alloc (bu C.vars vs vt))):=aa (ag _ _)
   go_enter func42,ntmps42
   go_wp2_with fail
   refine(H1 _ (aj E)).mono ?_
   rintro e w1⟨rfl,V⟩
   have F:=E.trans (V.mono E.size)
   obtain⟨d,y,z⟩:=bc F
   have I:=aa F
   clear V F
   go_wp2_with fail
   refine(H2 _ (aj I)).mono ?_
   rintro e w2⟨rfl,ak⟩
   have J:=I.trans (ak.mono I.size)
   clear d y z
   obtain⟨d,y,z⟩:=bc J
   have O:=aa J
   clear ak J
   go_wp2
   go_ret
   exact⟨cw (by rw[HR.out];rfl),aj O⟩
  | true =>
   cases b3 with
   | false =>
    have E:Hid (κ (w.alloc (bu C.vars vs vt)) (w.alloc (bu C.vars vs vt))):=aa (ag _ _)
    go_enter func42,ntmps42
    go_wp2_with fail
    refine(H1 _ (aj E)).mono ?_
    rintro e w1⟨rfl,V⟩
    have F:=E.trans (V.mono E.size)
    obtain⟨d,y,z⟩:=bc F
    have I:=aa F
    clear V F
    go_wp2_with fail
    refine(H2 _ (aj I)).mono ?_
    rintro e w2⟨rfl,ak⟩
    have J:=I.trans (ak.mono I.size)
    clear d y z
    obtain⟨d,y,z⟩:=bc J
    have O:=aa J
    clear ak J
    go_wp2_with fail
    refine(H3 _ (aj O) (by trivial)).mono ?_
    rintro e w3⟨rfl,am⟩
    have Q:=O.trans (am.mono O.size)
    clear d y z
    obtain⟨d,y,z⟩:=bc Q
    have U:=aa Q
    clear am Q
    go_wp2
    go_ret
    exact⟨cw (by rw[HR.out];rfl),aj U⟩
   | true =>
    cases b4 with
    | false =>
     cases b6 with
     | false =>
      have E:Hid (κ (w.alloc (bu C.vars vs vt)) (w.alloc (bu C.vars vs vt))):=aa (ag _ _)
      go_enter func42,ntmps42
      go_wp2_with fail
      refine(H1 _ (aj E)).mono ?_
      rintro e w1⟨rfl,V⟩
      have F:=E.trans (V.mono E.size)
      obtain⟨d,y,z⟩:=bc F
      have I:=aa F
      clear V F
      go_wp2_with fail
      refine(H2 _ (aj I)).mono ?_
      rintro e w2⟨rfl,ak⟩
      have J:=I.trans (ak.mono I.size)
      clear d y z
      obtain⟨d,y,z⟩:=bc J
      have O:=aa J
      clear ak J
      go_wp2_with fail
      refine(H3 _ (aj O) (by trivial)).mono ?_
      rintro e w3⟨rfl,am⟩
      have Q:=O.trans (am.mono O.size)
      clear d y z
      obtain⟨d,y,z⟩:=bc Q
      have U:=aa Q
      clear am Q
      go_wp2_with fail
      refine(H4 _ (aj U)).mono ?_
      rintro e w4⟨rfl,av⟩
      have Z:=U.trans (av.mono U.size)
      clear d y z
      obtain⟨d,y,z⟩:=bc Z
      have Y:=aa Z
      clear av Z
      go_wp2_with fail
      refine(H6 _ (aj Y)).mono ?_
      rintro e w5⟨rfl,ax⟩
      have ad:=Y.trans (ax.mono Y.size)
      clear d y z
      obtain⟨d,y,z⟩:=bc ad
      have al:=aa ad
      clear ax ad
      go_wp2
      go_ret
      exact⟨cw (by rw[HR.out];simp),aj al⟩
     | true =>
      cases b7 with
      | false =>
       have E:Hid (κ (w.alloc (bu C.vars vs vt)) (w.alloc (bu C.vars vs vt))):=aa (ag _ _)
       go_enter func42,ntmps42
       go_wp2_with fail
       refine(H1 _ (aj E)).mono ?_
       rintro e w1⟨rfl,V⟩
       have F:=E.trans (V.mono E.size)
       obtain⟨d,y,z⟩:=bc F
       have I:=aa F
       clear V F
       go_wp2_with fail
       refine(H2 _ (aj I)).mono ?_
       rintro e w2⟨rfl,ak⟩
       have J:=I.trans (ak.mono I.size)
       clear d y z
       obtain⟨d,y,z⟩:=bc J
       have O:=aa J
       clear ak J
       go_wp2_with fail
       refine(H3 _ (aj O) (by trivial)).mono ?_
       rintro e w3⟨rfl,am⟩
       have Q:=O.trans (am.mono O.size)
       clear d y z
       obtain⟨d,y,z⟩:=bc Q
       have U:=aa Q
       clear am Q
       go_wp2_with fail
       refine(H4 _ (aj U)).mono ?_
       rintro e w4⟨rfl,av⟩
       have Z:=U.trans (av.mono U.size)
       clear d y z
       obtain⟨d,y,z⟩:=bc Z
       have Y:=aa Z
       clear av Z
       go_wp2_with fail
       refine(H6 _ (aj Y)).mono ?_
       rintro e w5⟨rfl,ax⟩
       have ad:=Y.trans (ax.mono Y.size)
       clear d y z
       obtain⟨d,y,z⟩:=bc ad
       have al:=aa ad
       clear ax ad
       go_wp2_with fail
       refine(H7 _ (aj al)).mono ?_
       rintro e w6⟨rfl,a1⟩
       have a0:=al.trans (a1.mono al.size)
       clear d y z
       obtain⟨d,y,z⟩:=bc a0
       have a2:=aa a0
       clear a1 a0
       go_wp2
       go_ret
       exact⟨cw (by rw[HR.out];simp),aj a2⟩
      | true =>
       have E:Hid (κ (w.alloc (bu C.vars vs vt)) (w.alloc (bu C.vars vs vt))):=aa (ag _ _)
       go_enter func42,ntmps42
       go_wp2_with fail
       refine(H1 _ (aj E)).mono ?_
       rintro e w1⟨rfl,V⟩
       have F:=E.trans (V.mono E.size)
       obtain⟨d,y,z⟩:=bc F
       have I:=aa F
       clear V F
       go_wp2_with fail
       refine(H2 _ (aj I)).mono ?_
       rintro e w2⟨rfl,ak⟩
       have J:=I.trans (ak.mono I.size)
       clear d y z
       obtain⟨d,y,z⟩:=bc J
       have O:=aa J
       clear ak J
       go_wp2_with fail
       refine(H3 _ (aj O) (by trivial)).mono ?_
       rintro e w3⟨rfl,am⟩
       have Q:=O.trans (am.mono O.size)
       clear d y z
       obtain⟨d,y,z⟩:=bc Q
       have U:=aa Q
       clear am Q
       go_wp2_with fail
       refine(H4 _ (aj U)).mono ?_
       rintro e w4⟨rfl,av⟩
       have Z:=U.trans (av.mono U.size)
       clear d y z
       obtain⟨d,y,z⟩:=bc Z
       have Y:=aa Z
       clear av Z
       go_wp2_with fail
       refine(H6 _ (aj Y)).mono ?_
       rintro e w5⟨rfl,ax⟩
       have ad:=Y.trans (ax.mono Y.size)
       clear d y z
       obtain⟨d,y,z⟩:=bc ad
       have al:=aa ad
       clear ax ad
       go_wp2_with fail
       refine(H7 _ (aj al)).mono ?_
       rintro e w6⟨rfl,a1⟩
       have a0:=al.trans (a1.mono al.size)
       clear d y z
       obtain⟨d,y,z⟩:=bc a0
       have a2:=aa a0
       clear a1 a0
       go_wp2
       go_ret
       exact⟨cw (by rw[HR.out];simp),aj a2⟩
    | true =>
     by_cases h0:L.length=0
     . have b0:((L.length:Int)==0)=true:=by rw[ank];simpa using h0
       have H0:=aa h0
       clear h0
       have E:Hid (κ (w.alloc (bu C.vars vs vt)) (w.alloc (bu C.vars vs vt))):=aa (ag _ _)
       go_enter func42,ntmps42
       go_wp2_with fail
       refine(H1 _ (aj E)).mono ?_
       rintro e w1⟨rfl,V⟩
       have F:=E.trans (V.mono E.size)
       obtain⟨d,y,z⟩:=bc F
       have I:=aa F
       clear V F
       go_wp2_with fail
       refine(H2 _ (aj I)).mono ?_
       rintro e w2⟨rfl,ak⟩
       have J:=I.trans (ak.mono I.size)
       clear d y z
       obtain⟨d,y,z⟩:=bc J
       have O:=aa J
       clear ak J
       go_wp2_with fail
       refine(H3 _ (aj O) (by trivial)).mono ?_
       rintro e w3⟨rfl,am⟩
       have Q:=O.trans (am.mono O.size)
       clear d y z
       obtain⟨d,y,z⟩:=bc Q
       have U:=aa Q
       clear am Q
       go_wp2_with fail
       refine(H4 _ (aj U)).mono ?_
       rintro e w4⟨rfl,av⟩
       have Z:=U.trans (av.mono U.size)
       clear d y z
       obtain⟨d,y,z⟩:=bc Z
       have Y:=aa Z
       clear av Z
       go_wp2_with fail
       refine(H5 _ (aj Y)).mono ?_
       rintro e w5⟨ax,v,rfl,a3⟩
       obtain⟨kA,bk,rfl⟩:=ajl a3
       have bf:=ba.out
       have ad:=Y.trans (ax.mono Y.size)
       clear d y z
       obtain⟨d,y,z⟩:=bc ad
       have al:=aa ad
       clear ax ad a3
       go_wp2
       go_ret
       exact⟨cw (by rw[HR.out];simp[H0.out]),aj al⟩
     . have b0:((L.length:Int)==0)=false:=by rw[ank];simpa using h0
       have H0:=aa h0
       clear h0
       cases b6 with
       | false =>
        have E:Hid (κ (w.alloc (bu C.vars vs vt)) (w.alloc (bu C.vars vs vt))):=aa (ag _ _)
        go_enter func42,ntmps42
        go_wp2_with fail
        refine(H1 _ (aj E)).mono ?_
        rintro e w1⟨rfl,V⟩
        have F:=E.trans (V.mono E.size)
        obtain⟨d,y,z⟩:=bc F
        have I:=aa F
        clear V F
        go_wp2_with fail
        refine(H2 _ (aj I)).mono ?_
        rintro e w2⟨rfl,ak⟩
        have J:=I.trans (ak.mono I.size)
        clear d y z
        obtain⟨d,y,z⟩:=bc J
        have O:=aa J
        clear ak J
        go_wp2_with fail
        refine(H3 _ (aj O) (by trivial)).mono ?_
        rintro e w3⟨rfl,am⟩
        have Q:=O.trans (am.mono O.size)
        clear d y z
        obtain⟨d,y,z⟩:=bc Q
        have U:=aa Q
        clear am Q
        go_wp2_with fail
        refine(H4 _ (aj U)).mono ?_
        rintro e w4⟨rfl,av⟩
        have Z:=U.trans (av.mono U.size)
        clear d y z
        obtain⟨d,y,z⟩:=bc Z
        have Y:=aa Z
        clear av Z
        go_wp2_with fail
        refine(H5 _ (aj Y)).mono ?_
        rintro e w5⟨ax,v,rfl,a3⟩
        obtain⟨kA,bk,rfl⟩:=ajl a3
        have bf:=ba.out
        have ad:=Y.trans (ax.mono Y.size)
        clear d y z
        obtain⟨d,y,z⟩:=bc ad
        have al:=aa ad
        clear ax ad a3
        go_wp2_with fail
        refine(H6 _ (aj al)).mono ?_
        rintro e w6⟨rfl,a1⟩
        have a0:=al.trans (a1.mono al.size)
        clear d y z
        obtain⟨d,y,z⟩:=bc a0
        have a2:=aa a0
        clear a1 a0
        go_wp2
        go_ret
        exact⟨cw (by rw[HR.out];simp[H0.out]),aj a2⟩
       | true =>
        cases b7 with
        | false =>
         have E:Hid (κ (w.alloc (bu C.vars vs vt)) (w.alloc (bu C.vars vs vt))):=aa (ag _ _)
         go_enter func42,ntmps42
         go_wp2_with fail
         refine(H1 _ (aj E)).mono ?_
         rintro e w1⟨rfl,V⟩
         have F:=E.trans (V.mono E.size)
         obtain⟨d,y,z⟩:=bc F
         have I:=aa F
         clear V F
         go_wp2_with fail
         refine(H2 _ (aj I)).mono ?_
         rintro e w2⟨rfl,ak⟩
         have J:=I.trans (ak.mono I.size)
         clear d y z
         obtain⟨d,y,z⟩:=bc J
         have O:=aa J
         clear ak J
         go_wp2_with fail
         refine(H3 _ (aj O) (by trivial)).mono ?_
         rintro e w3⟨rfl,am⟩
         have Q:=O.trans (am.mono O.size)
         clear d y z
         obtain⟨d,y,z⟩:=bc Q
         have U:=aa Q
         clear am Q
         go_wp2_with fail
         refine(H4 _ (aj U)).mono ?_
         rintro e w4⟨rfl,av⟩
         have Z:=U.trans (av.mono U.size)
         clear d y z
         obtain⟨d,y,z⟩:=bc Z
         have Y:=aa Z
         clear av Z
         go_wp2_with fail
         refine(H5 _ (aj Y)).mono ?_
         rintro e w5⟨ax,v,rfl,a3⟩
         obtain⟨kA,bk,rfl⟩:=ajl a3
         have bf:=ba.out
         have ad:=Y.trans (ax.mono Y.size)
         clear d y z
         obtain⟨d,y,z⟩:=bc ad
         have al:=aa ad
         clear ax ad a3
         go_wp2_with fail
         refine(H6 _ (aj al)).mono ?_
         rintro e w6⟨rfl,a1⟩
         have a0:=al.trans (a1.mono al.size)
         clear d y z
         obtain⟨d,y,z⟩:=bc a0
         have a2:=aa a0
         clear a1 a0
         go_wp2_with fail
         refine(H7 _ (aj a2)).mono ?_
         rintro e w7⟨rfl,a9⟩
         have a4:=a2.trans (a9.mono a2.size)
         clear d y z
         obtain⟨d,y,z⟩:=bc a4
         have bb:=aa a4
         clear a9 a4
         go_wp2
         go_ret
         exact⟨cw (by rw[HR.out];simp[H0.out]),aj bb⟩
        | true =>
         have E:Hid (κ (w.alloc (bu C.vars vs vt)) (w.alloc (bu C.vars vs vt))):=aa (ag _ _)
         go_enter func42,ntmps42
         go_wp2_with fail
         refine(H1 _ (aj E)).mono ?_
         rintro e w1⟨rfl,V⟩
         have F:=E.trans (V.mono E.size)
         obtain⟨d,y,z⟩:=bc F
         have I:=aa F
         clear V F
         go_wp2_with fail
         refine(H2 _ (aj I)).mono ?_
         rintro e w2⟨rfl,ak⟩
         have J:=I.trans (ak.mono I.size)
         clear d y z
         obtain⟨d,y,z⟩:=bc J
         have O:=aa J
         clear ak J
         go_wp2_with fail
         refine(H3 _ (aj O) (by trivial)).mono ?_
         rintro e w3⟨rfl,am⟩
         have Q:=O.trans (am.mono O.size)
         clear d y z
         obtain⟨d,y,z⟩:=bc Q
         have U:=aa Q
         clear am Q
         go_wp2_with fail
         refine(H4 _ (aj U)).mono ?_
         rintro e w4⟨rfl,av⟩
         have Z:=U.trans (av.mono U.size)
         clear d y z
         obtain⟨d,y,z⟩:=bc Z
         have Y:=aa Z
         clear av Z
         go_wp2_with fail
         refine(H5 _ (aj Y)).mono ?_
         rintro e w5⟨ax,v,rfl,a3⟩
         obtain⟨kA,bk,rfl⟩:=ajl a3
         have bf:=ba.out
         have ad:=Y.trans (ax.mono Y.size)
         clear d y z
         obtain⟨d,y,z⟩:=bc ad
         have al:=aa ad
         clear ax ad a3
         go_wp2_with fail
         refine(H6 _ (aj al)).mono ?_
         rintro e w6⟨rfl,a1⟩
         have a0:=al.trans (a1.mono al.size)
         clear d y z
         obtain⟨d,y,z⟩:=bc a0
         have a2:=aa a0
         clear a1 a0
         go_wp2_with fail
         refine(H7 _ (aj a2)).mono ?_
         rintro e w7⟨rfl,a9⟩
         have a4:=a2.trans (a9.mono a2.size)
         clear d y z
         obtain⟨d,y,z⟩:=bc a4
         have bb:=aa a4
         clear a9 a4
         go_wp2
         go_ret
         exact⟨cw (by rw[HR.out];simp[H0.out]),aj bb⟩
theorem aan{S:List St}{s:Int}(h:ma S s=true):c6 S s=true:=by unfold ma at h;rw[bj]at h;exact h.2
theorem a7m(F s:Int)(vs vt:Value)(C:Ch)(w:ω)(z:d8 w vs vt C)(J:dw C.ab.length) :
 Calls prog 92 #[.agg #[ι F,vs,vt],ι s] w λe Q=>e=.returned (.bool (aqv C.ab s))/\κ w Q:=by
 have U:=aa (ap w (bu F vs vt));have I:=aa (agi F s vs vt C _ (z.below U) J);have HC:=aa z;unfold dw at J;cases h:ma C.ab s with
 | false =>have y:=aa h;clear h z;go_enter func92,ntmps92;go_wp2_with fail;refine I.mono ?_;rintro e Z⟨rfl,d⟩;have E:=aa (aj d);rw[y.out];clear d;go_wp2;go_ret;exact⟨az (by unfold aqv;rw[y.out];rfl),E⟩
 | true =>have y:=aa h;obtain⟨k,rfl,W⟩:=fq (aan h);obtain⟨b,o,ad,vi,ve,vx,rfl,ak,Y,O,_⟩:=z.st W;have V:=aa O;clear h z O;go_enter func92,ntmps92;go_wp2_with fail;refine I.mono ?_;rintro e Z⟨rfl,d⟩;have E:=aa (aj d);obtain⟨x0,x1,x2⟩:=bc d;obtain⟨c0,c1,c2,c3,c4⟩:=V.below E Y;rw[y.out];clear d;go_wp2_with fail;refine(dx _ _ _ _).mono ?_;rintro e Q⟨rfl,rfl⟩;go_wp2;go_ret;exact⟨az (by unfold aqv;rw[y.out];rfl),E⟩
theorem bbm(W e:Int)(vs vt:Value)(C:Ch)(w:ω)(V:d8 w vs vt C)(hl:C.ab.length<=1000) :
 Calls prog 93 #[.agg #[ι W,vs,vt],ι e] w λr E=>r=.returned (.bool (evB C.ab e))/\κ w E:=by
 have F:=aa (ap w (bu W vs vt));obtain⟨A,ad,rfl,ak⟩:=br.slice V.1;clear V;have U:evB C.ab e=evB C.ab e:=rfl;conv at U=>rhs;unfold evB
 generalize evB C.ab e=R at *;have I:=aa U;clear U;cases J:m9 e 0 1000 with
 | true =>have d:=aa J;clear J;go_enter func93,ntmps93;go_wp2_with fail;refine(dx _ _ _ _).mono ?_;rintro e E⟨rfl,rfl⟩;rw[d.out];go_wp2;go_ret;exact⟨az (by rw[I.out,d.out];simp),F⟩
 | false =>
  have d:=aa J;clear J;by_cases y:e=1001
  . have Y:(e==1001)=true:=(by simpa using y);have O:=aa y;clear y;go_enter func93,ntmps93;go_wp2_with fail;refine(dx _ _ _ _).mono ?_;rintro e E⟨rfl,rfl⟩;rw[d.out];go_wp2;go_ret;exact⟨az (by rw[I.out];simp[O.out]),F⟩
  . have Y:(e==1001)=false:=(by simpa using y);have O:=aa y;clear y;by_cases z:e=1002
    . have Z:(e==1002)=true:=(by simpa using z);have Q:=aa z;clear z;go_enter func93,ntmps93;go_wp2_with fail;refine(dx _ _ _ _).mono ?_;rintro e E⟨rfl,rfl⟩;rw[d.out];go_wp2;go_ret;exact⟨az (by rw[I.out];simp[Q.out]),F⟩
    . have Z:(e==1002)=false:=(by simpa using z);have Q:=aa z;clear z;go_enter func93,ntmps93;go_wp2_with fail;refine(dx _ _ _ _).mono ?_;rintro e E⟨rfl,rfl⟩;rw[d.out];go_wp2_with fail;refine(dx _ _ _ _).mono ?_;rintro e E⟨rfl,rfl⟩;go_wp2;go_ret;exact⟨az (by rw[I.out,d.out];simp[O.out,Q.out]),F⟩
theorem ayy{S:List St}{l:List Int}(h:3<l.length):yf S l=false:=by unfold yf;rw[show decide (l.length<=3)=false by simp;omega];rfl
theorem aua{S:List St}{l:List Int}(i:Nat)(d:i<l.length)(h:ma S (l.getD i 0)=false):yf S l=false:=by unfold yf;rw[oa i d h];simp
theorem ayx{S:List St}{l:List Int}(i k:Nat)(d:i<l.length)(y:k<i)(h:apart S (afg S (l.getD i 0)) (afg S (l.getD k 0))=false):yf S l=false:=by unfold yf;rw[oa (f:=aii S l) i d (by unfold aii;exact oa k y h)];simp
theorem a2d{S:List St}{l:List Int}(z:l.length<=3)(d:∀i,i<l.length->ma S (l.getD i 0)=true)(y:∀i,i<l.length->aii S l i=true):yf S l=true:=by unfold yf;rw[nh d,nh y];simp[z]
theorem awz{g:Nat}{F:Int}{vs vt:Value}{W0 w d:ω}(Q:g<W0.heap.size)
 (h:w.cell? (δ g 0)=some (ι F)/\w.cell? (δ g 1)=some vs/\w.cell? (δ g 2)=some vt/\κ W0 w)(y:κ w d) :
 d.cell? (δ g 0)=some (ι F)/\d.cell? (δ g 1)=some vs/\d.cell? (δ g 2)=some vt/\κ W0 d:=by
 obtain⟨I,J,O,z⟩:=h;have E:=c8 Q z.size;exact⟨(y.cell (p:=(δ g 0)) E).trans I,(y.cell (p:=(δ g 1)) E).trans J,(y.cell (p:=(δ g 2)) E).trans O,z.trans (y.mono z.size)⟩
theorem aeq{k:Nat}{f:Nat->Bool}(h:∀j,j<k->f j=true)(y:f k=true):∀j,j<k+1->f j=true:=λj z=>by
 by_cases d:j=k
 . rw[d];exact y
 . exact h j (by omega)
theorem alv{B:Nat}{a w:ω}(h:Below B a w):Below B a w.drew:=⟨h.os,h.tape,h.output,h.size,h.block⟩
theorem a2c(z:Int)(vs vt vl:Value)(C:Ch)(l:List Int)(w:ω)(hC:d8 w vs vt C)(hl:C.ab.length<=1000)(hv:dd w vl l)(c2:dw l.length) :
 Calls prog 94 #[.agg #[ι z,vs,vt],vl] w λe E=>e=.returned (.bool (yf C.ab l))/\κ w E:=by
 have HB:=aa (ap w (bu z vs vt));have bb:dw C.ab.length:=by unfold dw;omega
 have HN:=aa (λ(W:ω)(s:Int)(h:κ (w.alloc (bu z vs vt)) W)=>agi z s vs vt C W (hC.below (aj h)) bb);have bk:=aa (λ(W:ω)(s:Int)(hs:c6 C.ab s=true)(h:κ (w.alloc (bu z vs vt)) W)=>ati z s vs vt C W (hC.below (aj h)) bb hs);have bf:=aa (λ(W:ω)(a b:Int)(h:κ (w.alloc (bu z vs vt)) W)=>a05 z a b vs vt C W (hC.below (aj h)) bb);obtain⟨A,c4,rfl,c5,b3⟩:=hv;unfold dw at c2;have HE:=aa b3;clear hC b3;by_cases h3:3<l.length
 . have hd:decide ((3:Int)<(l.length:Int))=true:=(by simp;omega);have c1:decide (3<l.length)=true:=(by simpa using h3);have HR:=aa (ayy (S:=C.ab) h3);clear h3;go_enter func94,ntmps94;go_wp2;go_ret;exact⟨az HR.symm,HB⟩
 . have hd:decide ((3:Int)<(l.length:Int))=false:=(by simp;omega);have c1:decide (3<l.length)=false:=(by simpa using h3);have b7:=aa (a2d (S:=C.ab) (l:=l) (by omega));have cb:=aa (λi hi h=>aua (S:=C.ab) (l:=l) i hi h);have ci:=aa (λi k hi hk h=>ayx (S:=C.ab) (l:=l) i k hi hk h);generalize yf C.ab l=R at *;clear h3;go_enter func94,ntmps94;go_wp2_with fail;go_loopw [16] (λi wr=>∃k:Nat,k<=l.length/\i=ι (k:Int)/\Hid (∀j,j<k->ma C.ab (l.getD j 0)=true)/\κ (w.alloc (bu z vs vt)) wr) (λi _=>l.length-(intOf i).toNat)
   case atStart=>exact ⟨0,ar _,rfl,aa (λj hj=>by omega),ag _ _⟩
   case round =>
    obtain⟨k,hk,rfl,Q,d⟩:=hrel;obtain⟨wo,rfl⟩:∃wo:ω,wo=wr:=⟨_,rfl⟩;obtain⟨V,Y,Z⟩:=bc d;by_cases U:k<l.length
    . obtain⟨b,o,rfl,ba,O⟩:=HE.out k (l.getD k 0) (by simp[List.getD,ae U]);have c0:wo.cell? (δ b (o+k))=some (ι (l.getD k 0)):=(by have:=d7.keeps w wo b _ _ (aj d) ba O;rwa [bq]at this);have J:=cb.out k U;have F:=λh=>aeq (f:=λj=>ma C.ab (l.getD j 0)) Q h;generalize l.getD k 0=x at *;have I:=aa d;have a4:=aa J;have a9:=aa F;clear O d J F;cases hn:ma C.ab x with
      | false =>have ak:=aa hn;clear hn;go_wp2_with fail;refine(HN _ _ I).mono ?_;rintro e w1⟨rfl,al⟩;have a2:=aa (I.trans (al.mono I.size));rw[ak.out];clear al;go_wp2;go_ret;exact⟨az (a4 ak).symm,aj a2⟩
      | true =>
       have ak:=aa hn;clear hn;go_wp2_with fail;refine(HN _ _ I).mono ?_;rintro e w1⟨rfl,al⟩;have a2:=aa (I.trans (al.mono I.size));rw[ak.out];clear al;go_wp2;go_roundw
       case rel=>exact ⟨k+1,by omega,by go_num,aa (a9 ak),a2⟩
       case measure=>simp[intOf];omega
    . obtain rfl:k=l.length:=(by omega);have bs:=aa (λi hi=>aan (Q i hi));have b8:=aa (b7 Q);have I:=aa d;clear d;go_wp2_with fail;go_loopw [27] (λi wr=>∃k:Nat,k<=l.length/\i=ι (k:Int)/\Hid (∀j,j<k->aii C.ab l j=true)/\κ (w.alloc (bu z vs vt)) wr) (λi _=>l.length-(intOf i).toNat)
      case atStart=>exact ⟨0,ar _,rfl,aa (λj hj=>by omega),I⟩
      case round =>
       obtain⟨k,hk,rfl,Q,d⟩:=hrel;obtain⟨a0,rfl⟩:∃a0:ω,a0=wr:=⟨_,rfl⟩;clear V Y Z;obtain⟨V,Y,Z⟩:=bc d;by_cases U:k<l.length
       . obtain⟨b,o,rfl,ba,O⟩:=HE.out k (l.getD k 0) (by simp[List.getD,ae U]);have c0:a0.cell? (δ b (o+k))=some (ι (l.getD k 0)):=(by have:=d7.keeps w a0 b _ _ (aj d) ba O;rwa [bq]at this);have b5:=bs.out k U;have J:=λm hm=>ci k m U hm;have F:=λh=>aeq (f:=λj=>aii C.ab l j) Q h;unfold aii at F;generalize l.getD k 0=x at *;have a5:=aa d;have a4:=aa J;have a9:=aa F;have b1:=aa b5;clear O d J F b5;go_wp2_with fail;go_loopw [36] (λi wr=>∃m:Nat,m<=k/\i=ι (m:Int)/\Hid (∀j,j<m->apart C.ab (afg C.ab x) (afg C.ab (l.getD j 0))=true)/\κ (w.alloc (bu z vs vt)) wr) (λi _=>k-(intOf i).toNat)
         case atStart=>exact ⟨0,ar _,rfl,aa (λj hj=>by omega),a5⟩
         case round =>
          obtain⟨m,hm,rfl,b0,d⟩:=hrel;obtain⟨a1,rfl⟩:∃a1:ω,a1=wr:=⟨_,rfl⟩;clear V Y Z;obtain⟨V,Y,Z⟩:=bc d;by_cases c3:m<k
          . obtain⟨b',o',cv,co,O⟩:=HE.out m (l.getD m 0) (by simp[List.getD,ae (show m<l.length by omega)]);injection cv with e1;injection e1 with e2 e3;subst e2;subst e3;have d0:a1.cell? (δ b (o+m))=some (ι (l.getD m 0)):=(by have:=d7.keeps w a1 b _ _ (aj d) co O;rwa [bq]at this);have b6:=bs.out m (by omega);have J:=a4.out m c3;have F:=λh=>aeq (f:=λj=>apart C.ab (afg C.ab x) (afg C.ab (l.getD j 0))) b0 h;generalize l.getD m 0=y at *;have av:=aa d;have ca:=aa J;have cc:=aa F;have b2:=aa b6;clear O J F b6;have b4:w.heap.size<(w.alloc (bu z vs vt)).heap.size:=(by simp);have bt:=aa b4;clear b4;cases ax:apart C.ab (afg C.ab x) (afg C.ab y) with
            | true =>
             have ad:=aa ax;clear ax;go_wp2_with fail;go_region_held3 (λE=>E.cell? (δ w.heap.size 0)=some (ι z)/\E.cell? (δ w.heap.size 1)=some vs/\E.cell? (δ w.heap.size 2)=some vt/\κ (w.alloc (bu z vs vt)) E) (first | exact ⟨V,Y,Z,alv av⟩ | exact awz bt (by assumption) (by assumption))
              (first | (go_at_call 157;refine (bk _ _ (by first | exact b1 | exact b2) (by (exact (by assumption:_/\_/\_/\_).2.2.2))).mono ?_;rintro e E⟨rfl,am⟩) | (go_at_call 156;refine (bf _ _ _ (by (exact (by assumption:_/\_/\_/\_).2.2.2))).mono ?_;rintro e E⟨rfl,am⟩))
             have a3:Hid (κ (w.alloc (bu z vs vt)) E):=aa (by exact (by assumption:_/\_/\_/\_).2.2.2);rw[ad.out];clear am;go_wp2;go_roundw
             case rel=>exact ⟨m+1,by omega,by go_num,aa (cc ad),a3⟩
             case measure=>simp[intOf];omega
            | false =>
             have ad:=aa ax;clear ax;go_wp2_with fail;go_region_held3 (λE=>E.cell? (δ w.heap.size 0)=some (ι z)/\E.cell? (δ w.heap.size 1)=some vs/\E.cell? (δ w.heap.size 2)=some vt/\κ (w.alloc (bu z vs vt)) E) (first | exact ⟨V,Y,Z,alv av⟩ | exact awz bt (by assumption) (by assumption))
              (first | (go_at_call 157;refine (bk _ _ (by first | exact b1 | exact b2) (by (exact (by assumption:_/\_/\_/\_).2.2.2))).mono ?_;rintro e E⟨rfl,am⟩) | (go_at_call 156;refine (bf _ _ _ (by (exact (by assumption:_/\_/\_/\_).2.2.2))).mono ?_;rintro e E⟨rfl,am⟩))
             have a3:Hid (κ (w.alloc (bu z vs vt)) E):=aa (by exact (by assumption:_/\_/\_/\_).2.2.2);rw[ad.out];clear am;go_wp2;go_ret;exact⟨az (ca ad).symm,aj a3⟩
          . obtain rfl:m=k:=(by omega);have b9:=aa (a9 (nh b0));have av:=aa d;clear d;go_wp2;go_roundw
            case rel=>exact ⟨m+1,by omega,by go_num,aa (by simpa only[aii] using b9.out),av⟩
            case measure=>simp[intOf];omega
       . obtain rfl:k=l.length:=(by omega);have cl:=aa (b8 Q);have a5:=aa d;clear d;go_wp2;go_ret;exact⟨az cl.symm,aj a5⟩
abbrev awv(t:Tr)(vt d:Value):Value:=.agg #[ι t.src,ι t.ev,.string t.guard,vt,.bool t.inner,d]
abbrev mi(t:Tr)(vt d:Value):Obj:=.cells #[ι t.src,ι t.ev,.string t.guard,vt,.bool t.inner,d] 62
theorem cg.aa2{w:ω}{g:Nat}{t:TypeId}{a b c d e f:Value}(h:cg w g t #[a,b,c,d,e,f]) :
 w.cell? (δ g 0)=some a/\w.cell? (δ g 1)=some b/\w.cell? (δ g 2)=some c/\w.cell? (δ g 3)=some d/\w.cell? (δ g 4)=some e/\w.cell? (δ g 5)=some f:=⟨h.cell 0,h.cell 1,h.cell 2,h.cell 3,h.cell 4,h.cell 5⟩
theorem eh{w d:ω}{y:Int}{vs vt E z:Value}{t:Tr}(F:κ ((w.alloc (bu y vs vt)).alloc (mi t E z)) d) :
 (d.cell? (δ w.heap.size 0)=some (ι y)/\d.cell? (δ w.heap.size 1)=some vs/\d.cell? (δ w.heap.size 2)=some vt)/\
 (d.cell? (δ (w.heap.size+1) 0)=some (ι t.src)/\d.cell? (δ (w.heap.size+1) 1)=some (ι t.ev)/\d.cell? (δ (w.heap.size+1) 2)=some (.string t.guard)/\d.cell? (δ (w.heap.size+1) 3)=some E/\d.cell? (δ (w.heap.size+1) 4)=some (.bool t.inner)/\d.cell? (δ (w.heap.size+1) 5)=some z) :=
 ⟨(((cg.new w 25 #[ι y,vs,vt]).alloc _).below F (by simp;omega)).ax.1,((cg.dy (w.alloc (bu y vs vt)) 62 #[ι t.src,ι t.ev,.string t.guard,E,.bool t.inner,z] (w.heap.size+1) (by simp)).below F (by simp)).aa2⟩
theorem a7f(vs vt wt wa:Value)(C:Ch)(t:Tr)(w:ω)(hL:ju w)(hC:d8 w vs vt C)(hl:C.ab.length<=1000)(hv:-1000<=C.vars)(b7:C.vars<=1000)
 (ht:wc w wt wa t)(b0:ajz t)(hg:t.guard.size<=1000000)(has:ua t.acts) :
 Calls prog 43 #[.agg #[ι C.vars,vs,vt],awv t wt wa] w λe w'=>e=.returned (ι (trF eu C.ab C.vars t))/\κ w w':=by
 have b6:dw C.ab.length:=by unfold dw;omega
 have H1:=aa (λ(W:ω)(hb:κ w W)=>a7m C.vars t.src vs vt C W (hC.below hb) b6);have H2:=aa (λ(W:ω)(hb:κ w W)=>bbm C.vars t.ev vs vt C W (hC.below hb) hl);have H3:=aa (λ(W:ω)(hb:κ w W)=>a2c C.vars vs vt wt C t.cj W (hC.below hb) hl (ht.1.below hb) b0.1);have H4:=aa (λ(W:ω)(hb:κ w W)=>air t.guard C.vars 2 W (hL.after hb) hg);have H5:=aa (λ(W:ω)(hb:κ w W)=>al6 wa t.acts C.vars W (hL.after hb) (ht.2.below hb) b0.2 has hv b7);have hR:trF eu C.ab C.vars t=trF eu C.ab C.vars t:=rfl;conv at hR=>rhs;unfold trF
 obtain⟨tA,a9,aA,a3,rfl,rfl⟩:=ht.slices;generalize trF eu C.ab C.vars t=R at *;generalize aby eu C.vars t.acts=b5 at *;generalize eu t.guard C.vars 2=b4 at *;generalize yf C.ab t.cj=b3 at *;generalize evB C.ab t.ev=b2 at *;generalize aqv C.ab t.src=b1 at *;have HR:=aa hR;have hz:=un t.guard;generalize t.cj.length=tl at *;generalize t.acts.length=al at *;obtain⟨a5,ev,ak,ba,a4,acts⟩:=t;simp only at HR H1 H2 H3 H4 H5 hz ⊢;clear hR hL hC ht b0 hg has;cases b1 with
 | false =>have U:Hid (κ ((w.alloc (bu C.vars vs vt)).alloc (mi ⟨a5,ev,ak,ba,a4,acts⟩ (.slice tA tl a9) (.slice aA al a3))) ((w.alloc (bu C.vars vs vt)).alloc (mi ⟨a5,ev,ak,ba,a4,acts⟩ (.slice tA tl a9) (.slice aA al a3)))):=aa (ag _ _);go_enter func43,ntmps43;go_wp2_with fail;refine(H1 _ (cq U)).mono ?_;rintro e w1⟨rfl,av⟩;have V:=U.trans (av.mono U.size);obtain⟨⟨d,y,z⟩,E,F,I,J,O,Q⟩:=eh V;have Y:=aa V;clear av V;go_wp2;go_ret;exact⟨cw (by rw[HR.out];rfl),cq Y⟩
 | true =>
  cases b2 with
  | false =>
   have U:Hid (κ ((w.alloc (bu C.vars vs vt)).alloc (mi ⟨a5,ev,ak,ba,a4,acts⟩ (.slice tA tl a9) (.slice aA al a3))) ((w.alloc (bu C.vars vs vt)).alloc (mi ⟨a5,ev,ak,ba,a4,acts⟩ (.slice tA tl a9) (.slice aA al a3)))):=aa (ag _ _)
   go_enter func43,ntmps43
   go_wp2_with fail
   refine(H1 _ (cq U)).mono ?_
   rintro e w1⟨rfl,av⟩
   have V:=U.trans (av.mono U.size)
   obtain⟨⟨d,y,z⟩,E,F,I,J,O,Q⟩:=eh V
   have Y:=aa V
   clear av V
   go_wp2_with fail
   refine(H2 _ (cq Y)).mono ?_
   rintro e w2⟨rfl,a0⟩
   have Z:=Y.trans (a0.mono Y.size)
   clear d y z E F I J O Q
   obtain⟨⟨d,y,z⟩,E,F,I,J,O,Q⟩:=eh Z
   have ad:=aa Z
   clear a0 Z
   go_wp2
   go_ret
   exact⟨cw (by rw[HR.out];rfl),cq ad⟩
  | true =>
   cases b3 with
   | false =>
    have U:Hid (κ ((w.alloc (bu C.vars vs vt)).alloc (mi ⟨a5,ev,ak,ba,a4,acts⟩ (.slice tA tl a9) (.slice aA al a3))) ((w.alloc (bu C.vars vs vt)).alloc (mi ⟨a5,ev,ak,ba,a4,acts⟩ (.slice tA tl a9) (.slice aA al a3)))):=aa (ag _ _)
    go_enter func43,ntmps43
    go_wp2_with fail
    refine(H1 _ (cq U)).mono ?_
    rintro e w1⟨rfl,av⟩
    have V:=U.trans (av.mono U.size)
    obtain⟨⟨d,y,z⟩,E,F,I,J,O,Q⟩:=eh V
    have Y:=aa V
    clear av V
    go_wp2_with fail
    refine(H2 _ (cq Y)).mono ?_
    rintro e w2⟨rfl,a0⟩
    have Z:=Y.trans (a0.mono Y.size)
    clear d y z E F I J O Q
    obtain⟨⟨d,y,z⟩,E,F,I,J,O,Q⟩:=eh Z
    have ad:=aa Z
    clear a0 Z
    go_wp2_with fail
    refine(H3 _ (cq ad)).mono ?_
    rintro e w3⟨rfl,a2⟩
    have am:=ad.trans (a2.mono ad.size)
    clear d y z E F I J O Q
    obtain⟨⟨d,y,z⟩,E,F,I,J,O,Q⟩:=eh am
    have ax:=aa am
    clear a2 am
    go_wp2
    go_ret
    exact⟨cw (by rw[HR.out];rfl),cq ax⟩
   | true =>
    by_cases h0:ak.size=0
    . rw[show decide (ak.size=0)=true by simpa using h0]at hz
      have b8:(!ak.toList.isEmpty)=false:=by rw[hz];rfl
      have b9:ak.toList=[]:=by simpa using hz
      have H0:=aa h0
      clear h0
      cases b5 with
      | false =>
       have U:Hid (κ ((w.alloc (bu C.vars vs vt)).alloc (mi ⟨a5,ev,ak,ba,a4,acts⟩ (.slice tA tl a9) (.slice aA al a3))) ((w.alloc (bu C.vars vs vt)).alloc (mi ⟨a5,ev,ak,ba,a4,acts⟩ (.slice tA tl a9) (.slice aA al a3)))):=aa (ag _ _)
       go_enter func43,ntmps43
       go_wp2_with fail
       refine(H1 _ (cq U)).mono ?_
       rintro e w1⟨rfl,av⟩
       have V:=U.trans (av.mono U.size)
       obtain⟨⟨d,y,z⟩,E,F,I,J,O,Q⟩:=eh V
       have Y:=aa V
       clear av V
       go_wp2_with fail
       refine(H2 _ (cq Y)).mono ?_
       rintro e w2⟨rfl,a0⟩
       have Z:=Y.trans (a0.mono Y.size)
       clear d y z E F I J O Q
       obtain⟨⟨d,y,z⟩,E,F,I,J,O,Q⟩:=eh Z
       have ad:=aa Z
       clear a0 Z
       go_wp2_with fail
       refine(H3 _ (cq ad)).mono ?_
       rintro e w3⟨rfl,a2⟩
       have am:=ad.trans (a2.mono ad.size)
       clear d y z E F I J O Q
       obtain⟨⟨d,y,z⟩,E,F,I,J,O,Q⟩:=eh am
       have ax:=aa am
       clear a2 am
       go_wp2_with fail
       refine(H5 _ (cq ax)).mono ?_
       rintro e w4⟨rfl,bb⟩
       have a1:=ax.trans (bb.mono ax.size)
       clear d y z E F I J O Q
       obtain⟨⟨d,y,z⟩,E,F,I,J,O,Q⟩:=eh a1
       have bf:=aa a1
       clear bb a1
       go_wp2
       go_ret
       exact⟨cw (by rw[HR.out];simp[H0.out]),cq bf⟩
      | true =>
       have U:Hid (κ ((w.alloc (bu C.vars vs vt)).alloc (mi ⟨a5,ev,ak,ba,a4,acts⟩ (.slice tA tl a9) (.slice aA al a3))) ((w.alloc (bu C.vars vs vt)).alloc (mi ⟨a5,ev,ak,ba,a4,acts⟩ (.slice tA tl a9) (.slice aA al a3)))):=aa (ag _ _)
       go_enter func43,ntmps43
       go_wp2_with fail
       refine(H1 _ (cq U)).mono ?_
       rintro e w1⟨rfl,av⟩
       have V:=U.trans (av.mono U.size)
       obtain⟨⟨d,y,z⟩,E,F,I,J,O,Q⟩:=eh V
       have Y:=aa V
       clear av V
       go_wp2_with fail
       refine(H2 _ (cq Y)).mono ?_
       rintro e w2⟨rfl,a0⟩
       have Z:=Y.trans (a0.mono Y.size)
       clear d y z E F I J O Q
       obtain⟨⟨d,y,z⟩,E,F,I,J,O,Q⟩:=eh Z
       have ad:=aa Z
       clear a0 Z
       go_wp2_with fail
       refine(H3 _ (cq ad)).mono ?_
       rintro e w3⟨rfl,a2⟩
       have am:=ad.trans (a2.mono ad.size)
       clear d y z E F I J O Q
       obtain⟨⟨d,y,z⟩,E,F,I,J,O,Q⟩:=eh am
       have ax:=aa am
       clear a2 am
       go_wp2_with fail
       refine(H5 _ (cq ax)).mono ?_
       rintro e w4⟨rfl,bb⟩
       have a1:=ax.trans (bb.mono ax.size)
       clear d y z E F I J O Q
       obtain⟨⟨d,y,z⟩,E,F,I,J,O,Q⟩:=eh a1
       have bf:=aa a1
       clear bb a1
       go_wp2
       go_ret
       exact⟨cw (by rw[HR.out];simp[H0.out]),cq bf⟩
    . rw[show decide (ak.size=0)=false by simpa using h0]at hz
      have b8:(!ak.toList.isEmpty)=true:=by rw[hz];rfl
      have b9:¬ak.toList=[]:=by intro h;rw[h]at hz;cases hz
      have H0:=aa h0
      clear h0
      cases b4 with
      | false =>
       have U:Hid (κ ((w.alloc (bu C.vars vs vt)).alloc (mi ⟨a5,ev,ak,ba,a4,acts⟩ (.slice tA tl a9) (.slice aA al a3))) ((w.alloc (bu C.vars vs vt)).alloc (mi ⟨a5,ev,ak,ba,a4,acts⟩ (.slice tA tl a9) (.slice aA al a3)))):=aa (ag _ _)
       go_enter func43,ntmps43
       go_wp2_with fail
       refine(H1 _ (cq U)).mono ?_
       rintro e w1⟨rfl,av⟩
       have V:=U.trans (av.mono U.size)
       obtain⟨⟨d,y,z⟩,E,F,I,J,O,Q⟩:=eh V
       have Y:=aa V
       clear av V
       go_wp2_with fail
       refine(H2 _ (cq Y)).mono ?_
       rintro e w2⟨rfl,a0⟩
       have Z:=Y.trans (a0.mono Y.size)
       clear d y z E F I J O Q
       obtain⟨⟨d,y,z⟩,E,F,I,J,O,Q⟩:=eh Z
       have ad:=aa Z
       clear a0 Z
       go_wp2_with fail
       refine(H3 _ (cq ad)).mono ?_
       rintro e w3⟨rfl,a2⟩
       have am:=ad.trans (a2.mono ad.size)
       clear d y z E F I J O Q
       obtain⟨⟨d,y,z⟩,E,F,I,J,O,Q⟩:=eh am
       have ax:=aa am
       clear a2 am
       go_wp2_with fail
       refine(H4 _ (cq ax)).mono ?_
       rintro e w4⟨rfl,bb⟩
       have a1:=ax.trans (bb.mono ax.size)
       clear d y z E F I J O Q
       obtain⟨⟨d,y,z⟩,E,F,I,J,O,Q⟩:=eh a1
       have bf:=aa a1
       clear bb a1
       go_wp2
       go_ret
       exact⟨cw (by rw[HR.out];simp[H0.out]),cq bf⟩
      | true =>
       cases b5 with
       | false =>
        have U:Hid (κ ((w.alloc (bu C.vars vs vt)).alloc (mi ⟨a5,ev,ak,ba,a4,acts⟩ (.slice tA tl a9) (.slice aA al a3))) ((w.alloc (bu C.vars vs vt)).alloc (mi ⟨a5,ev,ak,ba,a4,acts⟩ (.slice tA tl a9) (.slice aA al a3)))):=aa (ag _ _)
        go_enter func43,ntmps43
        go_wp2_with fail
        refine(H1 _ (cq U)).mono ?_
        rintro e w1⟨rfl,av⟩
        have V:=U.trans (av.mono U.size)
        obtain⟨⟨d,y,z⟩,E,F,I,J,O,Q⟩:=eh V
        have Y:=aa V
        clear av V
        go_wp2_with fail
        refine(H2 _ (cq Y)).mono ?_
        rintro e w2⟨rfl,a0⟩
        have Z:=Y.trans (a0.mono Y.size)
        clear d y z E F I J O Q
        obtain⟨⟨d,y,z⟩,E,F,I,J,O,Q⟩:=eh Z
        have ad:=aa Z
        clear a0 Z
        go_wp2_with fail
        refine(H3 _ (cq ad)).mono ?_
        rintro e w3⟨rfl,a2⟩
        have am:=ad.trans (a2.mono ad.size)
        clear d y z E F I J O Q
        obtain⟨⟨d,y,z⟩,E,F,I,J,O,Q⟩:=eh am
        have ax:=aa am
        clear a2 am
        go_wp2_with fail
        refine(H4 _ (cq ax)).mono ?_
        rintro e w4⟨rfl,bb⟩
        have a1:=ax.trans (bb.mono ax.size)
        clear d y z E F I J O Q
        obtain⟨⟨d,y,z⟩,E,F,I,J,O,Q⟩:=eh a1
        have bf:=aa a1
        clear bb a1
        go_wp2_with fail
        refine(H5 _ (cq bf)).mono ?_
        rintro e w5⟨rfl,bs⟩
        have bk:=bf.trans (bs.mono bf.size)
        clear d y z E F I J O Q
        obtain⟨⟨d,y,z⟩,E,F,I,J,O,Q⟩:=eh bk
        have bt:=aa bk
        clear bs bk
        go_wp2
        go_ret
        exact⟨cw (by rw[HR.out];simp[H0.out]),cq bt⟩
       | true =>
        have U:Hid (κ ((w.alloc (bu C.vars vs vt)).alloc (mi ⟨a5,ev,ak,ba,a4,acts⟩ (.slice tA tl a9) (.slice aA al a3))) ((w.alloc (bu C.vars vs vt)).alloc (mi ⟨a5,ev,ak,ba,a4,acts⟩ (.slice tA tl a9) (.slice aA al a3)))):=aa (ag _ _)
        go_enter func43,ntmps43
        go_wp2_with fail
        refine(H1 _ (cq U)).mono ?_
        rintro e w1⟨rfl,av⟩
        have V:=U.trans (av.mono U.size)
        obtain⟨⟨d,y,z⟩,E,F,I,J,O,Q⟩:=eh V
        have Y:=aa V
        clear av V
        go_wp2_with fail
        refine(H2 _ (cq Y)).mono ?_
        rintro e w2⟨rfl,a0⟩
        have Z:=Y.trans (a0.mono Y.size)
        clear d y z E F I J O Q
        obtain⟨⟨d,y,z⟩,E,F,I,J,O,Q⟩:=eh Z
        have ad:=aa Z
        clear a0 Z
        go_wp2_with fail
        refine(H3 _ (cq ad)).mono ?_
        rintro e w3⟨rfl,a2⟩
        have am:=ad.trans (a2.mono ad.size)
        clear d y z E F I J O Q
        obtain⟨⟨d,y,z⟩,E,F,I,J,O,Q⟩:=eh am
        have ax:=aa am
        clear a2 am
        go_wp2_with fail
        refine(H4 _ (cq ax)).mono ?_
        rintro e w4⟨rfl,bb⟩
        have a1:=ax.trans (bb.mono ax.size)
        clear d y z E F I J O Q
        obtain⟨⟨d,y,z⟩,E,F,I,J,O,Q⟩:=eh a1
        have bf:=aa a1
        clear bb a1
        go_wp2_with fail
        refine(H5 _ (cq bf)).mono ?_
        rintro e w5⟨rfl,bs⟩
        have bk:=bf.trans (bs.mono bf.size)
        clear d y z E F I J O Q
        obtain⟨⟨d,y,z⟩,E,F,I,J,O,Q⟩:=eh bk
        have bt:=aa bk
        clear bs bk
        go_wp2
        go_ret
        exact⟨cw (by rw[HR.out];simp[H0.out]),cq bt⟩
end Go.Proofs.YtpekhdfmmkmjaaaGreatDoor
