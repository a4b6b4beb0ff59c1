/- Texts of the proof, put together. -/
import Derived.Test.YtpekhdfmmkmjaaaGreatDoorG13
namespace Go.Proofs.YtpekhdfmmkmjaaaGreatDoor
set_option maxHeartbeats 16000000
set_option maxRecDepth 100000
set_option linter.unusedVariables false
open Go.Proofs.Tryz
open Go.ChangeShapes Go.WideShapes Go.ChangeAt Go.RowKit
def ia(w:ω)(b n:Nat)(A:Nat->Bool):Prop:=∃d,cg w b 4 d/\d.size=n/\∀i,i<n->d[i]?=some (.bool (A i))
theorem ia.below{w w':ω}{b n:Nat}{A:Nat->Bool}(h:ia w b n A)(E:κ w w'):ia w' b n A:=by obtain ⟨y,d,z⟩:=h;exact⟨y,d.below E d.lt,z⟩
theorem ia.cell{w:ω}{b n:Nat}{A:Nat->Bool}(h:ia w b n A){k:Nat}(z:k<n):w.cell? (δ b k)=some (.bool (A k))/\w.frozen? (δ b k)=false:=by obtain ⟨E,d,F,y⟩:=h;exact⟨(d.cell k).trans (y k z),d.frozen k⟩
theorem ia.put{w:ω}{b n:Nat}{A:Nat->Bool}(h:ia w b n A)(k:Nat)(x:Bool)(B:Nat->Bool)(z:∀i,i<n->B i=if i=k then x else A i):ia (w.setCell (δ b k) (.bool x)) b n B:=by
 obtain⟨J,E,F,I⟩:=h;refine⟨_,E.ca k _,by simpa using F,λi d=>?_⟩;by_cases y:k=i
 . subst y;rw[ep (by omega),z k d,ao rfl]
 . rw[da y,I i d,z i d,ah (j1 y)]
theorem ia.apart{w:ω}{b n g:Nat}{A:Nat->Bool}(h:ia w b n A)(E:b≠g)(j:Nat)(u:Value):ia (w.setCell (δ g j) u) b n A:=by obtain ⟨d,y,z⟩:=h;exact⟨d,y.db E j u,z⟩
theorem aav(b n:Nat)(A:Nat->Bool)(w:ω)(Q:ia w b n A)(hn:n<=31) :
 Calls prog 28 #[.slice (some (δ b 0)) n n] w λe w'=>e=.returned (.int .u32 ((bset A n:Nat):Int))/\w=w':=by
 have Z:=aa (λk(J:k<n)=>(Q.cell J).1);have ad:=aa (λk(J:k<n)=>vj A n k J);have am:=fy A hn;have W:Hid (bset A n / 2^n=0):=aa (l6 (qj A n));have Y:Hid (bset A n / 2^0=bset A n):=aa (by simp);generalize bset A n=N at *;clear Q;go_enter func28,ntmps28;go_wp2_with fail;go_loopw [3,4] (λv i wr=>∃m:Nat,m<=n/\i=ι ((m:Int)-1)/\v=.int .u32 ((N / 2^m:Nat):Int)/\wr=w) (λ_ i _=>(intOf i+1).toNat)
 case atStart=>exact ⟨n,ai _,by go_num,by rw[W.out];rfl,rfl⟩
 case round =>
  obtain⟨m,hm,rfl,rfl,rfl⟩:=hrel;by_cases h0:m=0
  . subst h0;go_wp2;go_ret;exact⟨cw (by rw[Y.out]),rfl⟩
  . obtain⟨j,rfl⟩:∃j,m=j+1:=⟨m-1,by omega⟩;have e1:((j+1:Nat):Int)-1=(j:Int):=(by omega);rw[e1];have ak:decide (0<=(j:Int))=true:=(by simp);have O:wr.cell? (δ b j)=some (.bool (A j)):=Z.out j (by omega);have d:=ad.out j (by omega);have U:=bcp N j;have al:N / 2^j<=N:=Nat.div_le_self _ _;generalize V:N / 2^(j+1)=q at *;generalize E:N / 2^j=p at *;have hw:IntKind.u32.wrap ((q:Int)*2)=(q:Int)*2:=o4 _ (by omega) (by have:(2:Int)^32=4294967296:=rfl;omega);cases z:A j with
    | true =>
     rw[z]at O d;have y:p=q*2+1:=(by rw[ao rfl]at d;omega);have av:IntKind.u32.wrap ((q:Int)*2+1)=(q:Int)*2+1:=o4 _ (by omega) (by have:(2:Int)^32=4294967296:=rfl;omega);have F:=aa E;have I:=aa y;clear V E U d z y;go_wp2;go_roundw
     case rel=>exact ⟨j,by omega,by go_num,by rw[F.out,I.out];go_num,trivial⟩
     case measure=>simp[intOf]
    | false =>
     rw[z]at O d;have y:p=q*2:=(by rw[ah (by simp)]at d;omega);have F:=aa E;have I:=aa y;clear V E U d z y;go_wp2;go_roundw
     case rel=>exact ⟨j,by omega,by go_num,by rw[F.out,I.out];go_num,trivial⟩
     case measure=>simp[intOf]
abbrev av1(C:Ch)(vs vt vh ve vi vo:Value)(ba:Nat)(X:Se)(fu:Int):Array Value :=
 #[ι C.vars,vs,vt,.slice (some (δ ba 0)) C.ab.length C.ab.length,vh,ve,vi,ι X.st,vo,ι fu]
structure abr (M:Nat->Prop) (wM w:World):Prop where
 size:wM.heap.size<=w.heap.size
 lt:∀b,M b->b<wM.heap.size
 eq:∀b,M b->w.heap[b]?=wM.heap[b]?
theorem abr.nil(w:ω):abr (λ_=>False) w w:=⟨ai _,λb h=>h.elim,λb h=>h.elim⟩
theorem abr.refl{M:Nat->Prop}{w:ω}(h:∀b,M b->b<w.heap.size):abr M w w:=⟨ai _,h,λ_ _=>rfl⟩
theorem abr.after{M:Nat->Prop}{wM w w':ω}(h:abr M wM w)(y:κ w w'):abr M wM w' :=
 ⟨a6 h.size y.size,h.lt,λb d=>(y.block b (by have:=h.lt b d;have:=h.size;omega)).trans (h.eq b d)⟩
theorem abr.put{M:Nat->Prop}{wM w:ω}(h:abr M wM w){g:Nat}(y:¬M g)(j:Nat)(u:Value):abr M wM (w.setCell (δ g j) u) :=
 ⟨by simpa using h.size,h.lt,λb d=>(cz w (δ g j) u b (λe=>y (by have e:b=g:=e;rw[<-e];exact d))).trans (h.eq b d)⟩
theorem abr.grown{M:Nat->Prop}{wM w w':ω}(h:abr M wM w){row:Option Nat}(y:w.grownBy w' row)(z:∀b,row=some b->¬M b):abr M wM w' :=
 ⟨a6 h.size y.size,h.lt,λb d=>(y.block b (by have:=h.lt b d;have:=h.size;omega) (λe=>z b e.symm d)).trans (h.eq b d)⟩
theorem abr.blk{M:Nat->Prop}{wM w:ω}(h:abr M wM w){b:Nat}(d:M b){t:TypeId}{cs:Array Value}(y:cg wM b t cs):cg w b t cs:=(h.eq b d).trans y
theorem abr.at2{M:Nat->Prop}{wM w:ω}(h:abr M wM w){v v':Value}(d:v'.ownBlock=v.ownBlock\/v'.ownBlock=some w.heap.size)(E:∀b,v.ownBlock=some b->¬M b)(b:Nat)(y:v'.ownBlock=some b):¬M b:=by
 rcases d with d | d
 . exact E b (d▸y)
 . rw[d]at y;injection y with y;intro z;have:=h.lt b z;have:=h.size;omega
structure Off (M:Nat->Prop) (g ba:Nat) (vh vi vo:Value):Prop where
 box:¬M g
 act:¬M ba
 au:∀b,vh.ownBlock=some b->¬M b
 ins:∀b,vi.ownBlock=some b->¬M b
 out:∀b,vo.ownBlock=some b->¬M b
theorem Off.nil(g ba:Nat)(vh vi vo:Value):Off (λ_=>False) g ba vh vi vo:=⟨λh=>h,λh=>h,λ_ _ h=>h,λ_ _ h=>h,λ_ _ h=>h⟩
structure ej (w0 wM:World) (M:Nat->Prop) (g ba:Nat) (vs vt:Value) (C:Ch) (fu:Int) (w:World) (vh ve vi vo:Value) (X:Se):Prop where
 below:κ w0 w
 ge:w0.heap.size<=g/\w0.heap.size<=ba
 blk:cg w g 49 (av1 C vs vt vh ve vi vo ba X fu)
 act:ia w ba C.ab.length X.a
 rows:pu w0.heap.size w vh ve vi vo X
 stay:abr M wM w
 off:Off M g ba vh vi vo
section
variable {w0 wM:World} {M:Nat→Prop} {g ba:Nat} {vs vt:Value} {C:Ch} {fu:Int} {w w':World} {vh ve vi vo:Value} {X:Se}
theorem ej.lt(h:ej w0 wM M g ba vs vt C fu w vh ve vi vo X):w0.heap.size<=w.heap.size:=h.below.size
theorem ej.ne(h:ej w0 wM M g ba vs vt C fu w vh ve vi vo X):ba≠g:=λE=>by
 obtain⟨F,y,_⟩:=h.act
 have d:=h.blk
 subst E
 unfold cg at y d
 rw[y]at d
 injection d with d
 injection d with _ z
 exact absurd z (by decide)
theorem ej.after(h:ej w0 wM M g ba vs vt C fu w vh ve vi vo X)(d:κ w w'):ej w0 wM M g ba vs vt C fu w' vh ve vi vo X :=
 ⟨h.below.trans (d.mono h.lt),h.ge,h.blk.below d h.blk.lt,h.act.below d,h.rows.below d,h.stay.after d,h.off⟩
theorem ej.drew(h:ej w0 wM M g ba vs vt C fu w vh ve vi vo X):ej w0 wM M g ba vs vt C fu w.drew vh ve vi vo X:=h.after (ag _ _).drew
theorem ej.drewN(h:ej w0 wM M g ba vs vt C fu w vh ve vi vo X)(n:Nat):ej w0 wM M g ba vs vt C fu (w.drewN n) vh ve vi vo X:=h.after (bx (ag _ _) n)
theorem ej.cells(h:ej w0 wM M g ba vs vt C fu w vh ve vi vo X) :
 (w.cell? (δ g 0)=some (ι C.vars)/\w.cell? (δ g 1)=some vs/\w.cell? (δ g 2)=some vt/\w.cell? (δ g 3)=some (.slice (some (δ ba 0)) C.ab.length C.ab.length)/\w.cell? (δ g 4)=some vh)/\
 (w.cell? (δ g 5)=some ve/\w.cell? (δ g 6)=some vi/\w.cell? (δ g 7)=some (ι X.st)/\w.cell? (δ g 8)=some vo/\w.cell? (δ g 9)=some (ι fu)) :=
 ⟨⟨h.blk.cell 0,h.blk.cell 1,h.blk.cell 2,h.blk.cell 3,h.blk.cell 4⟩,⟨h.blk.cell 5,h.blk.cell 6,h.blk.cell 7,h.blk.cell 8,h.blk.cell 9⟩⟩
theorem ej.ww(h:ej w0 wM M g ba vs vt C fu w vh ve vi vo X):w.frozen? (δ g 4)=false/\w.frozen? (δ g 5)=false/\w.frozen? (δ g 6)=false/\w.frozen? (δ g 7)=false/\w.frozen? (δ g 8)=false :=
 ⟨h.blk.frozen 4,h.blk.frozen 5,h.blk.frozen 6,h.blk.frozen 7,h.blk.frozen 8⟩
theorem ej.set(h:ej w0 wM M g ba vs vt C fu w vh ve vi vo X){vh' z y vo':Value}{d:Se}(j:Nat)(u:Value)(F:(av1 C vs vt vh ve vi vo ba X fu).setIfInBounds j u=av1 C vs vt vh' z y vo' ba d fu)(J:pu w0.heap.size w vh' z y vo' d)(E:d.a=X.a)(I:Off M g ba vh' y vo') :
 ej w0 wM M g ba vs vt C fu (w.setCell (δ g j) u) vh' z y vo' d :=
 ⟨h.below.setCell h.ge.1 u,h.ge,by rw[<-F];exact h.blk.ca j u,by rw[E];exact h.act.apart h.ne j u,J.apart h.blk (by decide) (by decide) (by decide) (by decide) j u,h.stay.put h.off.box j u,I⟩
theorem ej.lq(h:ej w0 wM M g ba vs vt C fu w vh ve vi vo X)(n:Int):ej w0 wM M g ba vs vt C fu (w.setCell (δ g 7) (ι n)) vh ve vi vo (X.lq n) :=
 h.set 7 _ rfl ⟨h.rows.au,h.rows.env,h.rows.ins,h.rows.out⟩ rfl h.off
theorem ej.atz(h:ej w0 wM M g ba vs vt C fu w vh ve vi vo X){d:Value}{E:List Int}(y:ez w0.heap.size w d E):ej w0 wM M g ba vs vt C fu (w.setCell (δ g 5) d) vh d vi vo ⟨X.a,X.au,E,X.ins,X.st,X.out⟩ :=
 h.set 5 _ rfl (h.rows.atz y) rfl h.off
theorem ej.bc2(h:ej w0 wM M g ba vs vt C fu w vh ve vi vo X)(k:Nat):ej w0 wM M g ba vs vt C fu (w.setCell (δ ba k) (.bool true)) vh ve vi vo (X.ta (de X.a (k:Int))):=by
 obtain⟨E,z,_⟩:=h.act;have d:=h.rows.apart z (by decide) (by decide) (by decide) (by decide) k (.bool true);refine⟨h.below.setCell h.ge.2 _,h.ge,h.blk.db (j1 h.ne) k _,h.act.put k true _ λi F=>?_,⟨d.au,d.env,d.ins,d.out⟩,h.stay.put h.off.act k _,h.off⟩;show de X.a (k:Int) i=_;unfold de;by_cases y:i=k
 . subst y;simp
 . rw[ah y];have:decide ((i:Int)=(k:Int))=false:=(by simpa using (by omega:¬(i:Int)=k));rw[this];simp
theorem ej.ub(h:ej w0 wM M g ba vs vt C fu w vh ve vi vo X){d:Value}{L:List Int}(y:w.grownBy w' vi.ownBlock)(Q:w'.ownsRow w0.heap.size 3 1 d (X.ins.length+L.length) (bg X.ins++bg L))(O:d.ownBlock=vi.ownBlock\/d.ownBlock=some w.heap.size) :
 ej w0 wM M g ba vs vt C fu (w'.setCell (δ g 6) d) vh ve d vo ⟨X.a,X.au,X.env,X.ins++L,X.st,X.out⟩:=by
 have U:p9 w0.heap.size w' d (X.ins++L):=by unfold p9 bg;rw[ik,aw];exact Q
 have z:cg w' g 49 (av1 C vs vt vh ve vi vo ba X fu):=ec h.blk h.rows.ins (by decide) y;obtain⟨E,F,J⟩:=h.act;have I:=ec F h.rows.ins (by decide) y;exact⟨(ew (g:=g) h.below h.rows.ins h.lt y).setCell h.ge.1 _,h.ge,z.ca 6 d,⟨E,I.db h.ne 6 d,J⟩,(h.rows.ub y U).apart z (by decide) (by decide) (by decide) (by decide) 6 d,(h.stay.grown y h.off.ins).put h.off.box 6 d,⟨h.off.box,h.off.act,h.off.au,λb z=>h.stay.at2 O h.off.ins b z,h.off.out⟩⟩
theorem ej.ab3(h:ej w0 wM M g ba vs vt C fu w vh ve vi vo X){vo':Value}{L:List Ou}(d:w.grownBy w' vo.ownBlock)(O:w'.ownsRow w0.heap.size 73 4 vo' (X.out.length+L.length) (X.out.flatMap ft++L.flatMap ft))(J:vo'.ownBlock=vo.ownBlock\/vo'.ownBlock=some w.heap.size) :
 ej w0 wM M g ba vs vt C fu (w'.setCell (δ g 8) vo') vh ve vi vo' ⟨X.a,X.au,X.env,X.ins,X.st,X.out++L⟩:=by
 have Q:iw w0.heap.size w' vo' (X.out++L):=by unfold iw;rw[j7,aw];exact O
 have y:cg w' g 49 (av1 C vs vt vh ve vi vo ba X fu):=ec h.blk h.rows.out (by decide) d;obtain⟨z,E,I⟩:=h.act;have F:=ec E h.rows.out (by decide) d;exact⟨(ew (g:=g) h.below h.rows.out h.lt d).setCell h.ge.1 _,h.ge,y.ca 8 vo',⟨z,F.db h.ne 8 vo',I⟩,(h.rows.ab3 d Q).apart y (by decide) (by decide) (by decide) (by decide) 8 vo',(h.stay.grown d h.off.out).put h.off.box 8 vo',⟨h.off.box,h.off.act,h.off.au,h.off.ins,λb y=>h.stay.at2 J h.off.out b y⟩⟩
def Els(w:ω)(g ba:Nat)(vh vi vo:Value)(b:Nat):Prop:=b<w.heap.size/\b≠g/\b≠ba/\vh.ownBlock≠some b/\vi.ownBlock≠some b/\vo.ownBlock≠some b
theorem ej.frame(h:ej w0 wM M g ba vs vt C fu w vh ve vi vo X):ej w0 w (Els w g ba vh vi vo) g ba vs vt C fu w vh ve vi vo X :=
 ⟨h.below,h.ge,h.blk,h.act,h.rows,abr.refl λb d=>d.1,⟨λd=>d.2.1 rfl,λd=>d.2.2.1 rfl,λb y d=>d.2.2.2.1 y,λb y d=>d.2.2.2.2.1 y,λb y d=>d.2.2.2.2.2 y⟩⟩
def adk(w0 wM:ω)(M:Nat->Prop)(g ba:Nat)(vs vt:Value)(C:Ch)(fu:Int)(Y:Se)(e:Ending)(w':ω):Prop:=e=.returned (.tuple #[])/\∃vh ve vi vo,ej w0 wM M g ba vs vt C fu w' vh ve vi vo Y
theorem adk.of{Y Z:Se}{e:Ending}(y:e=.returned (.tuple #[]))(d:Z=Y)(h:ej w0 wM M g ba vs vt C fu w' vh ve vi vo Y):adk w0 wM M g ba vs vt C fu Z e w':=⟨y,vh,ve,vi,vo,d▸h⟩
theorem aez(I:ej w0 wM M g ba vs vt C fu w vh ve vi vo X){n:Nat}(F:ug n X)(hn:n<=10000)(Z:Value)(l:List Ac)(hA:oc w Z l)(hl:l.length<=40)(hx:∀a∈l,a.expr.size<=1000000) :
 Calls prog 106 #[φ g 0,Z] w (adk w0 wM M g ba vs vt C fu (doS l X)):=by
 obtain⟨i0,hi,a3,a4,a5⟩:=info_parts Tryz.info3;obtain⟨i1,ji,a9,bb,bf⟩:=info_parts Tryz.zz;have HI:=aa hi;have b2:=aa a3;have b3:=aa a4;have b4:=aa a5;have JI:=aa ji;have b5:=aa a9;have b6:=aa bb;have b7:=aa bf;have HS:=aa I;obtain⟨⟨x0,x1,x2,x3,x4⟩,x5,x6,x7,x8,x9⟩:=I.cells;have ak:=aa (a72 Z ve l X.env w hA hl hx I.rows.env.nums F.env F.fit);have cb:=F.out;have ca:=F.ins;have a0:=ajs l ⟨X.env,[],[]⟩;have ax:=agv l ⟨X.env,[],[]⟩;simp only[dg]at a0 ax;obtain⟨D,O⟩:∃D,doL l ⟨X.env,[],[]⟩=D:=⟨_,rfl⟩;have HR:Hid (doS l X=⟨X.a,X.au,D.env,X.ins++D.ins,X.st,X.out++D.out⟩):=aa (by rw[<-O];rfl);rw[O]at ak a0 ax;clear hi a3 a4 a5 ji a9 bb bf O I F hA hx;go_enter func106,ntmps106;go_wp2_with fail;refine ak.mono ?_;rintro e w1⟨av,cc,cl,ci,rfl,Q,a2,a1⟩;obtain⟨A1,am,rfl⟩:=ez.slice Q;have z:=aa (HS.after av);have Y:=HS.lt;have d:=aa (z.atz (cu.lower Q Y));have bs:=aa (du (fp a2 Y) z.blk (by decide) 5 (.slice A1 D.env.length am));have al:=aa (du (fp a1 Y) z.blk (by decide) 5 (.slice A1 D.env.length am));have bt:=aa (aet (iw.outs bs));clear x0 x1 x2 x3 x4 x5 x6 x7 x8 x9;obtain⟨⟨x0,x1,x2,x3,x4⟩,x5,x6,x7,x8,x9⟩:=z.cells;obtain⟨z4,z5,z6,z7,z8⟩:=z.ww;clear av Q a2 a1;go_wp2_with (at_builtin;refine fh rfl _ _ 39 rfl w0.heap.size 73 i1 (.agg #[ι 0,ι 0,ι 0,ι 0]) 4 32 underlying39 JI.out b5.out b6.out b7.out rfl (by decide) _ X.out.length (X.out.flatMap ft) rfl d.rows.out _ D.out.length (D.out.flatMap ft) rfl bt (ag _ _) ?c3 ?c4 ?c5 ?_)
 case c3=>unfold maxLen;omega
 case c4=>omega
 case c5=>simpa using d.lt
 intro v3 w3 V J h3;obtain⟨A3,b8,rfl⟩:=cd V;have E:=aa (d.ab3 (L:=D.out) J V (h3.imp_right λh=>by rw[h];simp));have y:=aa (ec d.blk d.rows.out (by decide) J);have bk:=aa (du (World.ownsRow.kept al J (zg al d.rows.out (by decide))) y (by decide) 8 (.slice A3 (X.out.length+D.out.length) b8));have b0:=aa (l9 (oy.fg bk (ai _)).list);have y6:w3.cell? (δ g 6)=some vi:=y.cell 6;have y8:w3.cell? (δ g 8)=some vo:=y.cell 8;have u6:=y.frozen 6;have u8:=y.frozen 8;clear V J h3 x0 x1 x2 x3 x4 x5 x6 x7 x8 x9 z4 z5 z6 z7 z8;go_wp2_with (at_builtin;refine fh rfl _ _ 36 rfl w0.heap.size 3 i0 (ι 0) 1 8 underlying36 HI b2 b3 b4 rfl (by decide) _ X.ins.length (bg X.ins) rfl E.rows.ins _ D.ins.length (bg D.ins) rfl b0 (ag _ _) ?c3 ?c4 ?c5 ?_)
 case c3=>unfold maxLen;omega
 case c4=>omega
 case c5=>simpa using E.lt
 intro v5 w5 W U h5;obtain⟨A5,b9,rfl⟩:=cd W;have b1:=aa (E.ub (L:=D.ins) U W (h5.imp_right λh=>by rw[h];simp));have ad:=aa (ec E.blk E.rows.ins (by decide) U);have t6:w5.cell? (δ g 6)=some vi:=ad.cell 6;have r6:=ad.frozen 6;clear W U h5 y6 y8 u6 u8;go_wp2;go_end0;exact .of rfl HR b1
end
theorem aqr{L:List Int}(D:Int->Bool){k:Nat}(d:k<L.length):(L.take (k+1)).all D=((L.take k).all D&&D L[k]):=by rw[cp d,List.all_append];simp
theorem ae7(n:Nat)(I:n<=1000)(W:ω):(Instr.makeSlice 47 (ι (n:Int)) (ι (n:Int))).run prog W=.ok (.slice (some (δ W.heap.size 0)) n n) (W.alloc (.cells (madeCells #[.bool false] n) 4)):=by obtain ⟨F,d,E,y,z⟩:=info_parts Tryz.a1f;have:=run_make (P:=prog) W 47 4 F (.bool false) underlying47 d E .i64 .i64 (n:Int) (n:Int) (by omega) (by omega) (by rw[z];omega) (by omega);rw[y]at this;simpa [Value.cells] using this
theorem aft{W:ω}{b n:Nat}(A:Nat->Bool)(y:∀k,k<n->A k=false)(h:cg W b 4 (madeCells #[.bool false] n)):ia W b n A:=⟨_,h,by simp[madeCells],λi d=>by rw[y i d];simp[madeCells,d,Nat.mod_one]⟩
theorem ag4{S:List St}{L:List Int}{q:Int}:al4 S L q=L.all λx=>jc S x q:=by rw[dh,al3,nr]
theorem arl(z:Int)(vs vt:Value)(C:Ch)(s:Int)(w:ω)(U:d8 w vs vt C)(hl:C.ab.length<=31) :
 Calls prog 227 #[.agg #[ι z,vs,vt],ι s] w λe w'=>κ w w'/\∃b,e=.returned (.slice (some (δ b 0)) C.ab.length C.ab.length)/\w.heap.size<=b/\ia w' b C.ab.length (gz C.ab s):=by
 have a0:=aa (λW=>ae7 C.ab.length (by omega) W);obtain⟨I,J,O,Q,rfl,rfl⟩:=U.slices;have HC:=aa U;have a4:=a0.out (w.alloc (bu z (.slice I C.ab.length J) (.slice O C.ay.length Q)));have am:=aa ((ap (w.alloc (bu z (.slice I C.ab.length J) (.slice O C.ay.length Q))) (.cells (madeCells #[.bool false] C.ab.length) 4)));have a1:Hid (ia ((w.alloc (bu z (.slice I C.ab.length J) (.slice O C.ay.length Q))).alloc (.cells (madeCells #[.bool false] C.ab.length) 4)) (w.heap.size+1) C.ab.length (λj=>decide (j<0)&&gz C.ab s j)):=aa (aft _ (λk hk=>by simp) (cg.dy _ _ _ _ (by simp)));clear U;go_enter func227,ntmps227;go_wp2_with fail;go_loopw [6] (λi wr=>∃k:Nat,k<=C.ab.length/\i=ι (k:Int)/\Hid (κ (w.alloc (bu z (.slice I C.ab.length J) (.slice O C.ay.length Q))) wr)/\Hid (ia wr (w.heap.size+1) C.ab.length (λj=>decide (j<k)&&gz C.ab s j))) (λi _=>C.ab.length-(intOf i).toNat)
 case atStart=>exact ⟨0,ar _,rfl,am,a1⟩
 case round =>
  clear a4;obtain⟨k,hk,rfl,E,HT⟩:=hrel;obtain⟨wo,rfl⟩:∃wo:ω,wo=wr:=⟨_,rfl⟩;obtain⟨x0,x1,x2⟩:=bc E;by_cases al:k<C.ab.length
  . have ax:Hid (gz C.ab s k=(jc C.ab (k:Int) s&&!ct (aq C.ab (k:Int)).kind)):=aa rfl;go_wp2_with fail;refine(acs z _ _ C k _ (HC.below (aj E)) (by omega) al).mono ?_;rintro e w1⟨rfl,V⟩;have F:=aa (E.trans (V.mono E.size));have a2:=aa (HT.below V);clear V x0 x1 x2;obtain⟨x0,x1,x2⟩:=bc F;generalize ct (aq C.ab (k:Int)).kind=hh at *;go_wp2_with fail;refine(ze z s _ _ C (by unfold dw;omega) _ (k:Int) _ (ai _) (HC.below (aj F))).mono ?_;rintro e w2⟨rfl,Y⟩;have av:=aa (F.trans (Y.mono F.size));have ad:=aa (a2.below Y);clear Y x0 x1 x2;obtain⟨q0,q1⟩:=ad.cell al;have y:=aa (ad.put k (gz C.ab s k) (λj=>decide (j<k+1)&&gz C.ab s j) (λi Z=>by
     by_cases ak:i=k
     . subst ak;simp
     . rw[ah ak];have:decide (i<k+1)=decide (i<k):=(by simp;omega);rw[this]))
    have d:=aa (av.setCell (p:=(δ (w.heap.size+1) k)) (by simp) (.bool (gz C.ab s k)));rw[ax.out]at y d;generalize jc C.ab (k:Int) s=ci at *;cases ci with
    | true =>
     cases hh with
     | true =>
      simp only[Bool.not_true,Bool.and_false]at d y
      go_wp2
      go_roundw
      case rel=>exact ⟨k+1,by omega,by go_num,d,y⟩
      case measure=>simp[intOf];omega
     | false =>
      simp only[Bool.not_false,Bool.and_true]at d y
      go_wp2
      go_roundw
      case rel=>exact ⟨k+1,by omega,by go_num,d,y⟩
      case measure=>simp[intOf];omega
    | false =>
     simp only[sw]at d y;go_wp2;go_roundw
     case rel=>exact ⟨k+1,by omega,by go_num,d,y⟩
     case measure=>simp[intOf];omega
  . obtain rfl:k=C.ab.length:=(by omega);go_wp2;go_ret;obtain⟨a3,h1,h2,h3⟩:=HT.out;exact⟨aj E,_,rfl,by simp,a3,h1,h2,λi Z=>by rw[h3 i Z];simp[Z]⟩
theorem azl(Q:Int)(vs vt v:Value)(C:Ch)(z:Nat)(L:List Int)(w:ω)(hC:d8 w vs vt C)(hT:l1 C.ab)(hv:dd w v ((z:Int)::L))(d1:z<C.ab.length)(hL:L.length<=1000) :
 Calls prog 226 #[.agg #[ι Q,vs,vt],v] w λe w'=>e=.returned (ι (jnT C.ab ((z:Int)::L)))/\κ w w':=by
 have d2:=hT.len;obtain⟨M,hM⟩:∃M,M=(z:Int)::L:=⟨_,rfl⟩;have b7:M[0]?=some (z:Int):=by rw[hM];rfl
 have ev:M.length<=1001/\0<M.length:=by rw[hM];simp;omega
 have HR:Hid (jnT C.ab M=apg C.ab M (wx C.ab (z:Int))):=aa (by rw[a4h C.ab (by omega)];rw[hM];rfl);rw[<-hM]at hv ⊢;clear hM;obtain⟨R,hR⟩:∃R,R=jnT C.ab M:=⟨_,rfl⟩;rw[<-hR]at HR ⊢;obtain⟨sA,O,Y,Z,rfl,rfl⟩:=hC.slices;obtain⟨mA,c2,rfl,e4,bk⟩:=hv;have HE:=aa bk;obtain⟨I,J,rfl,d3,cc⟩:=bk 0 _ b7;have HC:=aa hC;have c5:Hid (∀q∈wx C.ab (z:Int),c6 C.ab q=true):=aa (λq hq=>(aj4 hT hq).1);have c4:Hid ((wx C.ab (z:Int)).length<=24):=aa (a6 (aad C.ab (z:Int)) d2);have b4:Hid (∀W,κ w W->W.cell? (δ I J)=some (ι (z:Int))):=aa λW d=>by have h1:=(d.cell (p:=(δ I (J+0*1))) d3).trans cc;simpa using h1
 have c7:=aa (λ(W:ω)(d:κ w W)=>akh Q (.slice sA C.ab.length O) (.slice Y C.ay.length Z) C z W (hC.below d) (by omega) d1);have ex:(0:Int)<(M.length:Int):=by omega
 have er:((M.length:Int)==0)=false:=fw (by omega);generalize wx C.ab (z:Int)=E at *;clear hC hT bk cc hR b7;go_enter func226,ntmps226;go_wp2_with fail;refine cr (λW=>(W.cell? (δ w.heap.size 0)=some (ι Q)/\W.cell? (δ w.heap.size 1)=some (.slice sA C.ab.length O)/\W.cell? (δ w.heap.size 2)=some (.slice Y C.ay.length Z))/\W.cell? (δ I J)=some (ι (z:Int))) [] ?_;try simp only[Act.put,sx]
 have al:=aa (Below.drew (ag (w.alloc (bu Q (.slice sA C.ab.length O) (.slice Y C.ay.length Z))).heap.size (w.alloc (bu Q (.slice sA C.ab.length O) (.slice Y C.ay.length Z)))));generalize (w.alloc (bu Q (.slice sA C.ab.length O) (.slice Y C.ay.length Z))).drew=w1 at *;have F:=And.intro (bc al) (b4 _ (aj al));refine a7 0 (.agg #[ι Q,.slice sA C.ab.length O,.slice Y C.ay.length Z]) (F) ?_;refine af 1 (.slice (some (δ I J)) M.length c2) ?_;refine af 2 (φ I J) ?_;refine a7 3 (ι (z:Int)) (F) ?_;try simp only[Act.put,sx]
 clear F;refine a8 4 (λK HK=>?_);go_simp;refine(c7 _ (aj al)).mono ?_;rintro e w2⟨b8,v2,rfl,cl⟩;obtain⟨pA,bt,rfl,e5,cv⟩:=dc cl;have HP:=aa cv;have av:=aa (al.trans (b8.mono al.size));have b9:=And.intro (bc av) (b4 _ (aj av));clear b8 cl cv;go_simp;refine HK _ _ (λ_ hS=>b9) ?_;try simp only[Act.put,sx]
 clear b9;refine af 5 (.slice pA E.length bt) ?_;try simp only[Act.put,sx]
 refine ce ?_;have e6:E.length<=24:=c4.out;go_wp2_with fail;go_loopw [6] (λi wr=>∃j:Nat,j<=E.length/\i=ι (j:Int)/\Hid (κ w2 wr)/\Hid (R=apg C.ab M (E.drop j))) (λi _=>E.length-(intOf i).toNat)
 case atStart=>exact ⟨0,ar _,rfl,aa (ag _ _),HR⟩
 case round =>
  obtain⟨j,hj,rfl,HB,HR⟩:=hrel;obtain⟨wo,rfl⟩:∃wo:ω,wo=wr:=⟨_,rfl⟩;have b0:=aa (av.trans (HB.mono av.size));by_cases bf:j<E.length
  . obtain⟨U,V,d4,ek,co⟩:=HP.out j _ (ae bf);subst d4;have a0:Hid (∀W,κ w2 W->W.cell? (δ U (V+j))=some (ι E[j])):=aa λW d=>by have:=(d.cell (p:=(δ U (V+j*1))) ek).trans co;rwa [bq]at this
    have d5:=c5.out _ (bw bf);have ak:=HR.out;rw[bp bf,apg]at ak;generalize E[j]=q at *;obtain⟨y,rfl,d6⟩:=fq d5;obtain⟨b,o,el,vi,ve,vx,eb,_,db,c1,dy⟩:=HC.st d6;injection eb with e1 e2 e3;subst e1;have a1:=aa ak;have c3:Hid (∀W,κ w W->W.cell? (δ b (o+y*5))=some (ι (aq C.ab (y:Int)).kind)):=aa λW d=>(c1.below d db).1;generalize (aq C.ab (y:Int)).kind=kd at *;clear c1 dy e2 e3 co ak;go_wp2_with fail;refine cr (λW=>(W.cell? (δ w.heap.size 1)=some (.slice (some (δ b o)) C.ab.length O)/\W.cell? (δ U (V+j))=some (ι (y:Int)))/\W.cell? (δ b (o+y*5))=some (ι kd)) [] ?_;try simp only[Act.put,sx]
    have a2:=aa HB.drew;have ax:=aa b0.drew;generalize wo.drew=w4 at *;have F:=And.intro (And.intro (bc ax).2.1 (a0 _ a2)) (c3 _ (aj ax));have d0:(j:Int)<(E.length:Int):=(by omega);have e7:(y:Int)<(C.ab.length:Int):=(by omega);refine af 0 (φ w.heap.size 1) ?_;refine a7 1 (.slice (some (δ b o)) C.ab.length O) (F) ?_;refine af 2 (.slice (some (δ U V)) E.length bt) ?_;refine af 3 (ι (j:Int)) ?_;refine af 4 (φ U (V+j)) ?_;refine a7 5 (ι (y:Int)) (F) ?_;refine af 6 (φ b (o+y*5)) ?_;refine af 7 (φ b (o+y*5)) ?_;refine a7 8 (ι kd) (F) ?_;refine af 9 (.bool (kd==2)) ?_;refine af 10 (.bool (kd==2)) ?_;try simp only[Act.put,sx]
    refine ce ?_;clear F;go_wp2_with fail;go_loopw [7,8] (λv i wr=>∃k:Nat,k<=M.length/\i=ι (k:Int)/\v=.bool ((kd==2)&&(M.take k).all λx=>jc C.ab x (y:Int))/\Hid (κ w4 wr)) (λ_ i _=>M.length-(intOf i).toNat)
    case atStart=>exact ⟨0,ar _,rfl,by simp,aa (ag _ _)⟩
    case round =>
     obtain⟨k,hk,rfl,rfl,a5⟩:=hrel;obtain⟨wk,rfl⟩:∃wk:ω,wk=wr:=⟨_,rfl⟩;have b1:=aa (ax.trans (a5.mono ax.size));have a3:=aa (a2.trans (a5.mono a2.size));by_cases cb:k<M.length
     . obtain⟨nb,no,bs,eg,ci⟩:=HE.out k _ (ae cb);injection bs with bs;injection bs with h1 h2;subst h1;subst h2;have b5:Hid (∀W,κ w W->W.cell? (δ I (J+k))=some (ι M[k])):=aa λW d=>by have:=(d.cell (p:=(δ I (J+k*1))) eg).trans ci;rwa [bq]at this
       have b6:=aa (aqr (λx=>jc C.ab x (y:Int)) cb);generalize M[k]=x at *;have e0:(k:Int)<(M.length:Int):=(by omega);clear ci;go_wp2_with fail;refine cr (λW=>((W.cell? (δ w.heap.size 0)=some (ι Q)/\W.cell? (δ w.heap.size 1)=some (.slice (some (δ b o)) C.ab.length O)/\W.cell? (δ w.heap.size 2)=some (.slice Y C.ay.length Z))/\W.cell? (δ U (V+j))=some (ι (y:Int)))/\W.cell? (δ I (J+k))=some (ι x)) [] ?_;try simp only[Act.put,sx]
       have ad:=aa b1.drew;have a4:=aa a3.drew;have b2:=aa a5.drew;generalize wk.drew=w5 at *;have F:=And.intro (And.intro (bc ad) (a0 _ a4)) (b5 _ (aj ad));refine a7 0 (.agg #[ι Q,.slice (some (δ b o)) C.ab.length O,.slice Y C.ay.length Z]) (F) ?_;refine af 1 (.slice (some (δ I J)) M.length c2) ?_;refine af 2 (ι (k:Int)) ?_;refine af 3 (φ I (J+k)) ?_;refine a7 4 (ι x) (F) ?_;refine af 5 (.slice (some (δ U V)) E.length bt) ?_;refine af 6 (ι (j:Int)) ?_;refine af 7 (φ U (V+j)) ?_;refine a7 8 (ι (y:Int)) (F) ?_;try simp only[Act.put,sx]
       clear F;refine a8 9 (λK HK=>?_);go_simp;refine(ze Q (y:Int) _ _ C (by unfold dw;omega) _ x _ (ai _) (HC.below (aj ad))).mono ?_;rintro e w6⟨rfl,am⟩;have b3:=aa (b2.trans (am.mono b2.size));have ca:=And.intro (And.intro (bc (ad.trans (am.mono ad.size))) (a0 _ (a4.trans (am.mono a4.size)))) (b5 _ (aj (ad.trans (am.mono ad.size))));clear am;go_simp;refine HK _ _ (λ_ hS=>ca) ?_;try simp only[Act.put,sx]
       clear ca;refine af 10 (.bool (jc C.ab x (y:Int))) ?_;try simp only[Act.put,sx]
       refine ce ?_;cases d:((kd==2)&&(M.take k).all λx=>jc C.ab x (y:Int)) with
       | true =>
        have a9:=aa d;clear d;go_wp2;go_roundw
        case rel=>exact ⟨k+1,by omega,by go_num,by rw[b6.out,<-nt,a9.out];simp,b3⟩
        case measure=>simp[intOf];omega
       | false =>
        have a9:=aa d;clear d;go_wp2;go_roundw
        case rel=>exact ⟨k+1,by omega,by go_num,by rw[b6.out,<-nt,a9.out];simp,b3⟩
        case measure=>simp[intOf];omega
     . obtain rfl:k=M.length:=(by omega);have ds:M.take M.length=M:=ed;rw[ds];cases d:((kd==2)&&M.all λx=>jc C.ab x (y:Int)) with
       | true =>have bb:Hid (R=(y:Int)):=aa (by rw[bj]at d;rw[a1.out,ao ⟨by simpa using d.1,by rw[ag4];exact d.2⟩]);have c0:=a0.out _ a3;have d0:(j:Int)<(E.length:Int):=(by omega);clear d;go_wp2;go_ret;exact⟨cw (by rw[bb.out]),aj b1⟩
       | false =>
        have bb:Hid (R=apg C.ab M (E.drop (j+1))):=aa (by rw[a1.out,ah (λh=>by rw[ag4]at h;rw[h.1,h.2]at d;simp at d)]);clear d;go_wp2;go_roundw
        case rel=>exact ⟨j+1,by omega,by go_num,a3,bb⟩
        case measure=>simp[intOf];omega
  . obtain rfl:j=E.length:=(by omega);have ak:=HR.out;rw[bz,apg]at ak;have a1:=aa ak;clear ak;go_wp2;go_ret;exact⟨cw (by rw[a1.out]),aj b0⟩
theorem aqm{T:ByteArray->Int->Int->Bool}{C:Ch}(h:chk T C=.ok){j:Nat}(z:j<C.ay.length):c6 C.ab (es C.ay (j:Int)).src=true/\(es C.ay (j:Int)).cj.length<=3/\∀x∈(es C.ay (j:Int)).cj,c6 C.ab x=true:=by
 have d:=(ahy h).2.2 j z;rw[show C.ay.getD j mt=es C.ay (j:Int) from rfl]at d;generalize es C.ay (j:Int)=t at *;unfold trF at d;have E:aqv C.ab t.src=true:=by
  cases y:aqv C.ab t.src with
  | true=>rfl
  | false=>rw[y,ao rfl]at d;omega
 rw[ah (by rw[E];simp)]at d;have I:evB C.ab t.ev=true:=by
  cases y:evB C.ab t.ev with
  | true=>rfl
  | false=>rw[y,ao rfl]at d;omega
 rw[ah (by rw[I];simp)]at d;have F:yf C.ab t.cj=true:=by
  cases y:yf C.ab t.cj with
  | true=>rfl
  | false=>rw[y,ao rfl]at d;omega
 clear d I;unfold aqv ma at E;simp only[bj,bi]at E;obtain⟨⟨W,Q⟩,Y⟩:=E;unfold yf at F;simp only[bj,bi]at F;obtain⟨⟨J,O⟩,V⟩:=F;refine⟨Q,J,λx U=>?_⟩;obtain⟨j,z,rfl⟩:=List.getElem_of_mem U;have:=zh O j z;rw[bv,ae z]at this;unfold ma at this;simp at this;exact this.2
theorem anj{T:ByteArray->Int->Int->Bool}{C:Ch}(h:chk T C=.ok){k:Nat}(y:k<C.ab.length):decide (5<=(aq C.ab (k:Int)).kind)=ct (aq C.ab (k:Int)).kind:=by
 have d:=(wy ((ahy h).2.1 k y)).1;unfold ain at d;unfold ct;rw[dh];simp only[bi,im];split at d
 . have:(aq C.ab (k:Int)).kind=2:=(by simpa using d);omega
 . have:=mc.1 d;omega
theorem akl(vs vt:Value)(C:Ch)(j:Nat)(w:ω)(hC:d8 w vs vt C)(hk:chk eu C=.ok)(hj:j<C.ay.length) :
 Calls prog 176 #[.agg #[ι C.vars,vs,vt],ι (j:Int)] w λe w'=>e=.returned (ι (mj C (j:Int)))/\κ w w':=by
 obtain⟨i0,HI,bk,bs,bt⟩:=ιp Tryz.info3;have hT:=gr hk;have gv:=hT.len;obtain⟨f1,f2,f3⟩:=aqm hk hj;have b0:=aa (a79 C (i:=(j:Int)) (by unfold s7;simp;omega) f1);obtain⟨sA,ak,tA,am,rfl,rfl⟩:=hC.slices;have HC:=aa hC;have HT:=aa hT;have ev:=aa (λ(k:Nat)(f4:k<C.ab.length)=>anj hk f4);have ek:=aa (λ(x:Int)(hx:c6 C.ab x=true)=>a4p hT hx);obtain⟨Q,o2,gi,wt,wa,ca,_,fa,cc,b8⟩:=hC.2.at_ hj;injection ca with U e2 e3;subst U;generalize es C.ay (j:Int)=T at *;obtain⟨a9,a2,a3,y,ad,acts⟩:=T;simp only at f1 f2 f3 b0;obtain⟨V,av,aA,a1,rfl,rfl⟩:=b8.slices;simp only at cc;generalize acts.length=al at *;have d6:=aa ((ap (w.alloc (bu C.vars (.slice sA C.ab.length ak) (.slice (some (δ Q o2)) C.ay.length am))) (.cells #[ι a9,ι a2,.string a3,.slice V y.length av,.bool ad,.slice aA al a1] 62)));have E:=aa (aj d6);obtain⟨c0,c1,c2,c3,c4,c5⟩:=cc.below (ap w (bu C.vars (.slice sA C.ab.length ak) (.slice (some (δ Q o2)) C.ay.length am))) fa;have e7:=aa (b8.1.below E);have cv:=aa ((cg.new w 25 #[ι C.vars,.slice sA C.ab.length ak,.slice (some (δ Q o2)) C.ay.length am]).alloc (.cells #[ι a9,ι a2,.string a3,.slice V y.length av,.bool ad,.slice aA al a1] 62));have b3:=aa (cg.dy (w.alloc (bu C.vars (.slice sA C.ab.length ak) (.slice (some (δ Q o2)) C.ay.length am))) 62 #[ι a9,ι a2,.string a3,.slice V y.length av,.bool ad,.slice aA al a1] (w.heap.size+1) (by simp));have gk:decide ((j:Int)<0)=false:=by simp
 have gl:decide ((C.ay.length:Int)<=(j:Int))=false:=by simp;omega
 have gs:(j:Int)<(C.ay.length:Int):=by omega
 obtain⟨x0,x1,x2⟩:=(cv.ax).1;clear hC hT hk cc b8 e2 e3;by_cases h0:y.length=0
 . have fg:((y.length:Int)==0)=true:=(by rw[h0];rfl);have HR:Hid (mj C (j:Int)=-1):=aa (by rw[b0.out,ao h0]);clear h0;obtain⟨⟨y0,y1,y2,y3,y4,y5⟩,-⟩:=afh b3;go_enter func176,ntmps176;go_wp2;go_ret;exact⟨cw (by rw[HR.out]),E⟩
 . have fg:((y.length:Int)==0)=false:=fw (by omega);have HR:Hid (mj C (j:Int)=if (ad&&decide ((aq C.ab a9).kind=2)&&al4 C.ab (gd C.ab y) a9)=true then a9 else jnT C.ab (a9::gd C.ab y)):=aa (by rw[b0.out,ah h0]);clear h0;obtain⟨d,rfl,d2⟩:=fq f1;obtain⟨b,o,f9,vi,ve,vx,ca,_,db,cb,fv⟩:=HC.st d2;injection ca with U e2 e3;subst U;obtain⟨B0,b5⟩:∃B0,B0=(ad&&decide ((aq C.ab (d:Int)).kind=2)):=⟨_,rfl⟩;have d5:=aa b5;rw[<-b5]at HR;obtain⟨d0,-⟩:=cb.below E db;have g0:(d:Int)<(C.ab.length:Int):=(by omega);have c7:(gd C.ab y).length=y.length:=(by unfold gd;simp);have eb:Hid (∀k(hk:k<y.length),(gd C.ab y)[k]?=some (tx C.ab y[k])):=aa λk hk=>by unfold gd;rw[gw,ae hk];rfl
   generalize gd C.ab y=G at *;obtain⟨⟨y0,y1,y2,y3,y4,y5⟩,-⟩:=afh b3;have e0:=aa (ajj ((w.alloc (bu C.vars (.slice (some (δ b o)) C.ab.length ak) (.slice (some (δ Q o2)) C.ay.length am))).alloc (.cells #[ι (d:Int),ι a2,.string a3,.slice V y.length av,.bool ad,.slice aA al a1] 62)) (ι (d:Int)) 3);have ci:=aa (ap ((w.alloc (bu C.vars (.slice (some (δ b o)) C.ab.length ak) (.slice (some (δ Q o2)) C.ay.length am))).alloc (.cells #[ι (d:Int),ι a2,.string a3,.slice V y.length av,.bool ad,.slice aA al a1] 62)) (.cells #[ι (d:Int)] 3));have f6:w.heap.size+1<((w.alloc (bu C.vars (.slice (some (δ b o)) C.ab.length ak) (.slice (some (δ Q o2)) C.ay.length am))).alloc (.cells #[ι (d:Int),ι a2,.string a3,.slice V y.length av,.bool ad,.slice aA al a1] 62)).heap.size:=(by simp);have co:Hid (∀W,κ ((w.alloc (bu C.vars (.slice (some (δ b o)) C.ab.length ak) (.slice (some (δ Q o2)) C.ay.length am))).alloc (.cells #[ι (d:Int),ι a2,.string a3,.slice V y.length av,.bool ad,.slice aA al a1] 62)) W->
    (W.cell? (δ w.heap.size 0)=some (ι C.vars)/\W.cell? (δ w.heap.size 1)=some (.slice (some (δ b o)) C.ab.length ak)/\W.cell? (δ w.heap.size 2)=some (.slice (some (δ Q o2)) C.ay.length am))/\W.cell? (δ (w.heap.size+1) 0)=some (ι (d:Int))/\W.cell? (δ (w.heap.size+1) 3)=some (.slice V y.length av)/\W.cell? (δ b (o+d*5))=some (ι (aq C.ab (d:Int)).kind)):=aa λW hb=>by
    have h1:=(cv.below hb (by omega)).ax.1
    have h2:=(afh (b3.below hb f6)).1
    exact⟨h1,h2.1,h2.2.2.2.1,(cb.below (E.trans (hb.mono E.size)) db).1⟩
   have e6:Hid (((w.alloc (bu C.vars (.slice (some (δ b o)) C.ab.length ak) (.slice (some (δ Q o2)) C.ay.length am))).alloc (.cells #[ι (d:Int),ι a2,.string a3,.slice V y.length av,.bool ad,.slice aA al a1] 62)).heap.size=w.heap.size+1+1):=aa (by simp);obtain⟨⟨u0,u1,u2⟩,u3,u4,u5⟩:=co.out _ ci;generalize (aq C.ab (d:Int)).kind=kd at *;clear cb fv e2 e3 b5;cases ad;all_goals
    go_enter func176,ntmps176
    go_wp2_with fail
    generalize ((w.alloc (bu C.vars (.slice (some (δ b o)) C.ab.length ak) (.slice (some (δ Q o2)) C.ay.length am))).alloc (.cells #[ι (d:Int),ι a2,.string a3,.slice V y.length av,.bool _,.slice aA al a1] 62))=w1 at *
    go_loopw [6,7,8] (λv a i wr=>∃(k:Nat),k<=y.length/\i=ι (k:Int)/\a=.bool (B0&&(G.take k).all λx=>jc C.ab x (d:Int))/\Hid (κ w1 wr)/\Hid (wr.ownsRow w1.heap.size 3 1 v (k+1) (bg ((d:Int)::G.take k)))) (λ_ _ i _=>y.length-(intOf i).toNat)
    case atStart=>exact ⟨0,ar _,rfl,by rw[d5.out];first | (simp;done) | (simp;rfl),ci,aa (by have h:=e0.out;rw[e6.out]at h ⊢;exact h)⟩
    case round =>
     clear u0 u1 u2 u3 u4 u5 x0 x1 x2 y0 y1 y2 y3 y4 y5 d0 c0 c1 c2 c3 c4 c5
     obtain⟨k,hk,rfl,rfl,I,HO⟩:=hrel
     obtain⟨wo,rfl⟩:∃wo:ω,wo=wr:=⟨_,rfl⟩
     obtain⟨⟨x0,x1,x2⟩,y0,y3,d0⟩:=co.out _ I
     by_cases b9:k<y.length
     . obtain⟨gb,go,fn,dy,ds⟩:=(let ⟨_,_,h1,_,h3⟩:=e7.out;by injection h1 with U e2 e3;subst U;exact h3 k _ (ae b9):∃b o,V=some (δ b o)/\_/\_)
       subst fn
       have hx:=f3 _ (bw b9)
       have eg:=aa (eb k b9)
       have e8:Hid (∀W,κ w1 W->W.cell? (δ gb (go+k))=some (ι y[k])):=aa λW hb=>by
        have:=(hb.cell (p:=(δ gb (go+k*1))) dy).trans ds
        rwa [bq]at this
       have er:=aa (ek _ hx)
       generalize y[k]=x at *
       obtain⟨z,rfl,d4⟩:=fq hx
       obtain⟨b',o',gg,hc,ha,hd,f5,_,e9,d3,f0⟩:=HC.st d4
       injection f5 with U e2 e3
       injection U with U
       injection U with U e4
       subst U;subst e4
       have e5:Hid (∀W,κ w1 W->W.cell? (δ b (o+z*5))=some (ι (aq C.ab (z:Int)).kind)/\W.cell? (δ b (o+z*5+1))=some (ι (aq C.ab (z:Int)).par)):=aa λW hb=>by
        have h:=d3.below (E.trans (hb.mono E.size)) e9
        exact⟨h.1,h.2.1⟩
       have d1:=ev.out z d4
       have cl:Hid (tx C.ab (z:Int)=if decide (5<=(aq C.ab (z:Int)).kind)=true then (aq C.ab (z:Int)).par else (z:Int)):=aa (by rw[er.out,d1];rfl)
       have f8:Hid (∃P,(aq C.ab (z:Int)).par=P):=aa ⟨_,rfl⟩
       have bb:=aa (aqr (L:=G) (λx=>jc C.ab x (d:Int)) (k:=k) (by omega))
       have b6:G[k]'(by omega)=tx C.ab (z:Int):=by
        have:=eg.out
        rw[ae (by omega)]at this
        injection this
       have el:Hid (G.take (k+1)=G.take k ++ [tx C.ab (z:Int)]):=aa (by rw[cp (by omega),b6])
       rw[b6]at bb
       generalize tx C.ab (z:Int)=gx at *
       generalize (aq C.ab (z:Int)).kind=kx at *
       generalize (aq C.ab (z:Int)).par=px at *
       have c0:=e8.out _ I
       obtain⟨c1,c2⟩:=e5.out _ I
       have g3:(z:Int)<(C.ab.length:Int):=by omega
       have gu:(k:Int)<(y.length:Int):=by omega
       clear d3 f0 e2 e3 ds dy d1 b6 hx
       have bf:Hid (∀(W:ω)(v:Value),κ w1 W->W.ownsRow w1.heap.size 3 1 v (k+1+1) (bg ((d:Int)::G.take k) ++ [ι gx])->W.ownsRow w1.heap.size 3 1 v (k+1+1) (bg ((d:Int)::G.take (k+1)))):=aa λW v hb h=>by
        rw[el.out,show(d:Int)::(G.take k ++ [gx])=((d:Int)::G.take k) ++ [gx] from rfl,dp]
        exact h
       obtain⟨rA,g4,rfl⟩:=cd HO
       by_cases h5:5<=kx
       . have b4:decide (5<=kx)=true:=by simpa using h5
         obtain rfl:gx=px:=by rw[cl.out,ao b4]
         clear h5
         go_wp2_with fail
         refine(ze C.vars (d:Int) _ _ C (by unfold dw;omega) _ gx _ (ai _) (HC.below (E.trans (I.mono E.size)))).mono ?_
         rintro e w3⟨rfl,ax⟩
         have J:=aa (I.trans (ax.mono I.size))
         have a0:=aa (bl HO ax)
         have f7:=J.size
         clear ax x0 x1 x2 y0 y3 d0 c0 c1 c2
         cases F:(B0&&(G.take k).all λx=>jc C.ab x (d:Int)) with
         | true =>
          have a4:Hid ((B0&&(G.take (k+1)).all λx=>jc C.ab x (d:Int))=jc C.ab gx (d:Int)):=aa (by rw[bb.out,<-nt,F];simp)
          clear F
          go_wp2_with (at_builtin;refine wpList_append_own_at _ rfl _ _ 36 rfl (w1.heap.size) 3 i0 (ι 0) 1 8 underlying36 HI bk bs bt rfl (by decide) _ _ _ rfl (a0.alloc _) (δ w3.heap.size 0) 1 1 [ι gx] rfl rfl (g8 _ _ _ _ rfl) (fl _) (by unfold maxLen;omega) (by omega) (by simp;omega) ?_)
          intro v' w4 Z Y _ _
          have O:=aa (ck (J.alloc J.size _) Y (by simp;omega) (λg hg=>by have:=(a0.lt g hg).1;simpa using this))
          have a5:=aa (bf _ _ O (by simpa using Z))
          clear Z Y
          go_wp2
          go_roundw
          case rel=>exact ⟨k+1,by omega,by go_num,by rw[a4.out],O,a5⟩
          case measure=>simp[intOf];omega
         | false =>
          have a4:Hid ((B0&&(G.take (k+1)).all λx=>jc C.ab x (d:Int))=false):=aa (by rw[bb.out,<-nt,F];simp)
          clear F
          go_wp2_with (at_builtin;refine wpList_append_own_at _ rfl _ _ 36 rfl (w1.heap.size) 3 i0 (ι 0) 1 8 underlying36 HI bk bs bt rfl (by decide) _ _ _ rfl (a0.alloc _) (δ w3.heap.size 0) 1 1 [ι gx] rfl rfl (g8 _ _ _ _ rfl) (fl _) (by unfold maxLen;omega) (by omega) (by simp;omega) ?_)
          intro v' w4 Z Y _ _
          have O:=aa (ck (J.alloc J.size _) Y (by simp;omega) (λg hg=>by have:=(a0.lt g hg).1;simpa using this))
          have a5:=aa (bf _ _ O (by simpa using Z))
          clear Z Y
          go_wp2
          go_roundw
          case rel=>exact ⟨k+1,by omega,by go_num,by rw[a4.out],O,a5⟩
          case measure=>simp[intOf];omega
       . have b4:decide (5<=kx)=false:=by simpa using h5
         obtain rfl:gx=(z:Int):=by rw[cl.out,ah (by rw[b4];simp)]
         clear h5
         go_wp2_with fail
         refine(ze C.vars (d:Int) _ _ C (by unfold dw;omega) _ (z:Int) _ (ai _) (HC.below (E.trans (I.mono E.size)))).mono ?_
         rintro e w3⟨rfl,ax⟩
         have J:=aa (I.trans (ax.mono I.size))
         have a0:=aa (bl HO ax)
         have f7:=J.size
         clear ax x0 x1 x2 y0 y3 d0 c0 c1 c2
         cases F:(B0&&(G.take k).all λx=>jc C.ab x (d:Int)) with
         | true =>
          have a4:Hid ((B0&&(G.take (k+1)).all λx=>jc C.ab x (d:Int))=jc C.ab (z:Int) (d:Int)):=aa (by rw[bb.out,<-nt,F];simp)
          clear F
          go_wp2_with (at_builtin;refine wpList_append_own_at _ rfl _ _ 36 rfl (w1.heap.size) 3 i0 (ι 0) 1 8 underlying36 HI bk bs bt rfl (by decide) _ _ _ rfl (a0.alloc _) (δ w3.heap.size 0) 1 1 [ι (z:Int)] rfl rfl (g8 _ _ _ _ rfl) (fl _) (by unfold maxLen;omega) (by omega) (by simp;omega) ?_)
          intro v' w4 Z Y _ _
          have O:=aa (ck (J.alloc J.size _) Y (by simp;omega) (λg hg=>by have:=(a0.lt g hg).1;simpa using this))
          have a5:=aa (bf _ _ O (by simpa using Z))
          clear Z Y
          go_wp2
          go_roundw
          case rel=>exact ⟨k+1,by omega,by go_num,by rw[a4.out],O,a5⟩
          case measure=>simp[intOf];omega
         | false =>
          have a4:Hid ((B0&&(G.take (k+1)).all λx=>jc C.ab x (d:Int))=false):=aa (by rw[bb.out,<-nt,F];simp)
          clear F
          go_wp2_with (at_builtin;refine wpList_append_own_at _ rfl _ _ 36 rfl (w1.heap.size) 3 i0 (ι 0) 1 8 underlying36 HI bk bs bt rfl (by decide) _ _ _ rfl (a0.alloc _) (δ w3.heap.size 0) 1 1 [ι (z:Int)] rfl rfl (g8 _ _ _ _ rfl) (fl _) (by unfold maxLen;omega) (by omega) (by simp;omega) ?_)
          intro v' w4 Z Y _ _
          have O:=aa (ck (J.alloc J.size _) Y (by simp;omega) (λg hg=>by have:=(a0.lt g hg).1;simpa using this))
          have a5:=aa (bf _ _ O (by simpa using Z))
          clear Z Y
          go_wp2
          go_roundw
          case rel=>exact ⟨k+1,by omega,by go_num,by rw[a4.out],O,a5⟩
          case measure=>simp[intOf];omega
     . obtain rfl:k=y.length:=by omega
       have b7:G.take y.length=G:=by rw[<-c7];exact ed
       rw[b7]at HO ⊢
       cases F:(B0&&G.all λx=>jc C.ab x (d:Int)) with
       | true =>
        have b1:Hid (mj C (j:Int)=(d:Int)):=aa (by
         rw[HR.out,ao (by rw[ag4];exact F)])
        clear F b7
        go_wp2
        go_ret
        exact⟨cw (by rw[b1.out]),E.trans (I.mono E.size)⟩
       | false =>
        have b1:Hid (mj C (j:Int)=jnT C.ab ((d:Int)::G)):=aa (by
         rw[HR.out,ah (by rw[ag4,F];simp)])
        have ex:Hid (dd wo _ ((d:Int)::G)):=aa (dc (by rw[bm,c7];exact HO))
        clear F b7
        go_wp2_with fail
        refine(azl C.vars _ _ _ C d G _ (HC.below (E.trans (I.mono E.size))) HT ex d2 (by omega)).mono ?_
        rintro e w3⟨rfl,ax⟩
        have J:=aa (I.trans (ax.mono I.size))
        clear ax
        go_wp2
        go_ret
        exact⟨cw (by rw[b1.out]),E.trans (J.mono E.size)⟩
section
variable {vs vt:Value} {C:Ch} {n:Nat} {w:World}
theorem aew(E:d8 w vs vt C)(I:chk eu C=.ok)(hn:n<4294967296)(hp:tf C.ab (cm n))(j:Nat)(hj:j<C.ay.length) :
 Calls prog 177 #[.agg #[ι C.vars,vs,vt],.int .u32 (n:Int),ι (j:Int)] w λe w'=>e=.returned (.int .u32 ((leftN C n (j:Int):Nat):Int))/\κ w w':=by
 have hT:=gr I;have a9:=hT.len;obtain⟨sA,bs,tA,bt,rfl,rfl⟩:=E.slices;have HC:=aa E;have HR:=aa (akl _ _ C j _ (E.below (ap w (bu C.vars (.slice sA C.ab.length bs) (.slice tA C.ay.length bt)))) I hj);have a2:Hid (mj C (j:Int)<0->leftN C n (j:Int)=0):=aa λh=>by unfold leftN;rw[ao (a78 h)]
 have a3:Hid (0<=mj C (j:Int)->leftN C n (j:Int)=bset (λx=>gz C.ab (mj C (j:Int)) x&&cm n x) C.ab.length):=aa λh=>a36 a9 hp h;generalize leftN C n (j:Int)=X at *;generalize mj C (j:Int)=r at *;clear E I hp hT;by_cases J:r<0
 . have bk:decide (r<0)=true:=(by simpa using J);have U:=aa (a2 J);go_enter func177,ntmps177;go_wp2_with fail;refine HR.mono ?_;rintro e w1⟨rfl,d⟩;go_wp2;go_ret;exact⟨cw (by rw[U.out];rfl),aj d⟩
 . have bk:decide (r<0)=false:=(by simpa using J);have U:=aa (a3 (by omega));clear J;go_enter func177,ntmps177;go_wp2_with fail;refine HR.mono ?_;rintro e w1⟨rfl,d⟩;obtain⟨x0,x1,x2⟩:=bc d;have O:=aa d;clear d;go_wp2_with fail;refine(arl C.vars _ _ C r _ (HC.below (aj O)) (by omega)).mono ?_;rintro e w2⟨al,b,rfl,am,ak⟩;have a0:=aa al;have a1:Hid (w1.heap.size<=b):=aa am;have a4:Hid (ia w2 b C.ab.length (λi=>gz C.ab r i&&(decide (0<=i)||cm n i))):=aa (by obtain ⟨V,Y,Z,h3⟩:=ak;exact⟨V,Y,Z,λi F=>by rw[h3 i F];simp⟩);clear al am ak x0 x1 x2;go_wp2_with fail;go_loopw [9] (λi wr=>∃k:Nat,k<=C.ab.length/\i=ι (k:Int)/\Hid (κ w1 wr)/\Hid (ia wr b C.ab.length (λi=>gz C.ab r i&&(decide (k<=i)||cm n i)))) (λi _=>C.ab.length-(intOf i).toNat)
   case atStart=>exact ⟨0,ar _,rfl,a0,a4⟩
   case round =>
    obtain⟨k,I,rfl,HB,Q⟩:=hrel;obtain⟨wo,rfl⟩:∃wo:ω,wo=wr:=⟨_,rfl⟩;by_cases bf:k<C.ab.length
    . obtain⟨q0,q1⟩:=Q.cell bf;have z:=aa (Q.put k (gz C.ab r k&&cm n k) (λi=>gz C.ab r i&&(decide (k+1<=i)||cm n i)) (λi F=>by
       by_cases av:i=k
       . subst av;have:decide (i+1<=i)=false:=(by simp);rw[ao rfl,this,Bool.false_or]
       . rw[ah av];have:decide (k+1<=i)=decide (k<=i):=(by simp;omega);rw[this]))
      have y:=aa (HB.setCell (p:=(δ b k)) a1 (.bool (gz C.ab r k&&cm n k)));have ax:(gz C.ab r k&&(decide (k<=k)||cm n k))=gz C.ab r k:=(by simp);rw[ax]at q0;have ad:=aa (λ(W:ω)=>m0 n k (by omega) (by omega) W);rw[show decide (n / 2^k%2=1)=cm n k from rfl]at ad;clear ax;generalize gz C.ab r k=bb at *;generalize cm n k=nb at *;cases bb with
      | true =>
       simp only[Bool.true_and]at z y;go_wp2_with fail;refine(ad _).mono ?_;rintro e w3⟨rfl,rfl⟩;go_wp2;go_roundw
       case rel=>exact ⟨k+1,by omega,by go_num,y,z⟩
       case measure=>simp[intOf];omega
      | false =>
       simp only[sw]at z y;go_wp2;go_roundw
       case rel=>exact ⟨k+1,by omega,by go_num,y,z⟩
       case measure=>simp[intOf];omega
    . obtain rfl:k=C.ab.length:=(by omega);have a5:Hid (ia wo b C.ab.length (λx=>gz C.ab r x&&cm n x)):=aa (by obtain ⟨V,Y,Z,h3⟩:=Q.out;exact⟨V,Y,Z,λi F=>by rw[h3 i F];have:decide (C.ab.length<=i)=false:=(by simp;omega);show some (Value.bool (gz C.ab r i&&(decide (C.ab.length<=i)||cm n i)))=_;rw[this,Bool.false_or]⟩);go_wp2_with fail;refine(aav b C.ab.length _ _ a5 (by omega)).mono ?_;rintro e w3⟨rfl,rfl⟩;go_wp2;go_ret;exact⟨cw (by rw[U.out]),aj (O.trans (HB.mono O.size))⟩
theorem auy(y:d8 w vs vt C)(d:chk eu C=.ok)(O:n<4294967296)(Q:tf C.ab (cm n))(i j:Nat)(hi:i<C.ay.length)(hj:j<C.ay.length) :
 Calls prog 174 #[.agg #[ι C.vars,vs,vt],.int .u32 (n:Int),ι (i:Int),ι (j:Int)] w λe w'=>e=.returned (.bool (clI (leftN C n) (i:Int) (j:Int)))/\κ w w':=by
 have a3:=(gr d).len;obtain⟨sA,a1,tA,a2,rfl,rfl⟩:=y.slices;have HI:=aa (λ(W:ω)(I:κ w W)=>aew (y.below I) d O Q i hi);have HJ:=aa (λ(W:ω)(I:κ w W)=>aew (y.below I) d O Q j hj);have Z:Hid (clI (leftN C n) (i:Int) (j:Int)=(List.range C.ab.length).any λx=>cm (leftN C n (i:Int)) x&&cm (leftN C n (j:Int)) x):=aa (a0x C n (i:Int) (j:Int)).symm;have ak:=aa (ac0 C n (i:Int));have al:=aa (ac0 C n (j:Int));generalize leftN C n (i:Int)=a at *;generalize leftN C n (j:Int)=b at *;generalize clI (leftN C n) (i:Int) (j:Int)=R at *;clear y d O Q hi hj;go_enter func174,ntmps174;go_wp2_with fail;refine(HI _ (ap w (bu C.vars (.slice sA C.ab.length a1) (.slice tA C.ay.length a2)))).mono ?_;rintro e w1⟨rfl,J⟩;obtain⟨x0,x1,x2⟩:=bc J;have E:=aa J;clear J;go_wp2_with fail;refine(HJ _ (aj E)).mono ?_;rintro e w2⟨rfl,ad⟩;have F:=aa (E.trans (ad.mono E.size));clear ad x0 x1 x2;obtain⟨x0,x1,x2⟩:=bc F;go_wp2_with fail;go_loopw [11] (λi wr=>∃k:Nat,k<=C.ab.length/\i=ι (k:Int)/\wr=w2/\Hid (((List.range k).any λx=>cm a x&&cm b x)=false)) (λi _=>C.ab.length-(intOf i).toNat)
 case atStart=>exact ⟨0,ar _,rfl,rfl,aa rfl⟩
 case round =>
  obtain⟨k,d,rfl,rfl,V⟩:=hrel;by_cases a0:k<C.ab.length
  . have z:=aa (λ(W:ω)=>m0 a k (by have:=ak.out;omega) (by omega) W);rw[show decide (a / 2^k%2=1)=cm a k from rfl]at z;have U:=aa (λ(W:ω)=>m0 b k (by have:=al.out;omega) (by omega) W);rw[show decide (b / 2^k%2=1)=cm b k from rfl]at U;have Y:Hid (((List.range (k+1)).any λx=>cm a x&&cm b x)=(cm a k&&cm b k)):=aa (by rw[mm,mq,V.out];simp);have ax:Hid ((cm a k&&cm b k)=true->R=true):=aa λh=>by rw[Z.out,iz];exact⟨k,dk.2 a0,h⟩
    generalize cm a k=p at *;generalize cm b k=q at *;cases p with
    | true =>
     go_wp2_with fail
     refine(z _).mono ?_
     rintro e w3⟨rfl,rfl⟩
     go_wp2_with fail
     refine(U _).mono ?_
     rintro e w3⟨rfl,rfl⟩
     cases q with
     | true =>
      have av:=aa (ax rfl)
      go_wp2
      go_ret
      exact⟨az (by rw[av.out]),aj F⟩
     | false =>
      go_wp2
      go_roundw
      case rel=>exact ⟨k+1,by omega,by go_num,trivial,aa (by rw[Y.out];rfl)⟩
      case measure=>simp[intOf];omega
    | false =>
     go_wp2_with fail;refine(z _).mono ?_;rintro e w3⟨rfl,rfl⟩;go_wp2;go_roundw
     case rel=>exact ⟨k+1,by omega,by go_num,trivial,aa (by rw[Y.out];rfl)⟩
     case measure=>simp[intOf];omega
  . obtain rfl:k=C.ab.length:=(by omega);have am:Hid (R=false):=aa (by rw[Z.out,V.out]);go_wp2;go_ret;exact⟨az (by rw[am.out]),aj F⟩
end
theorem a7r(C:Ch)(d:Int->Nat)(x:Int)(K:List Int):yi C d K x=if (K.any λk=>clI d x k&&!inI C x k)=true then K else K.filter (λk=>!clI d x k) ++ [x]:=rfl
theorem aqq{K:List Int}(D:Int->Bool){m:Nat}(d:m<K.length):(K.take (m+1)).filter D=if D K[m]=true then (K.take m).filter D ++ [K[m]] else (K.take m).filter D:=by rw[cp d,oe];cases h:D K[m]<;>simp[h]
theorem a2g{K:List Int}(D:Int->Bool){m:Nat}(d:m<K.length):(K.take (m+1)).any D=((K.take m).any D||D K[m]):=by rw[cp d,mq];simp
theorem azc(vs vt vl:Value)(C:Ch)(n:Nat)(l:List Int)(w:ω)(hC:d8 w vs vt C)(hk:chk eu C=.ok)(hn:n<4294967296)(hp:tf C.ab (cm n))(hv:dd w vl l)(hl:l.length<=1000)(hx:∀x∈l,∃j:Nat,x=(j:Int)/\j<C.ay.length) :
 Calls prog 114 #[.agg #[ι C.vars,vs,vt],.int .u32 (n:Int),vl] w (ab0 (sfL C (leftN C n) l) w):=by
 obtain⟨i0,hi,ev,ex,e0⟩:=info_parts Tryz.info3;have HI:=aa hi;have d1:=aa ev;have d2:=aa ex;have d3:=aa e0;have g3:=(gr hk).len;obtain⟨sA,ak,tA,Z,rfl,rfl⟩:=hC.slices;obtain⟨lA,b9,rfl,g0,eg⟩:=hv;have HE:=aa eg;have HC:=aa hC;have HX:=aa hx;have fg:=aa (λ(W:ω)(U:κ w W)(i j:Nat)(hi:i<C.ay.length)(hj:j<C.ay.length)=>auy (hC.below U) hk hn hp i j hi hj);have HR:Hid (sfL C (leftN C n) l=l.foldl (yi C (leftN C n)) []):=aa rfl;obtain⟨R,hR⟩:∃R,R=sfL C (leftN C n) l:=⟨_,rfl⟩;rw[<-hR]at HR ⊢;have fa:=aa (ap w (bu C.vars (.slice sA C.ab.length ak) (.slice tA C.ay.length Z)));generalize leftN C n=Q at *;clear hi ev ex e0 hk hp eg hx hR hC;go_enter func114,ntmps114;go_wp2_with fail;go_loopw [7,8] (λv i wr=>∃(k:Nat)(K:List Int),k<=l.length/\K.length<=k/\i=ι (k:Int)/\Hid (R=(l.drop k).foldl (yi C Q) K)/\Hid (∀x∈K,∃j:Nat,x=(j:Int)/\j<C.ay.length)/\Hid (κ (w.alloc (bu C.vars (.slice sA C.ab.length ak) (.slice tA C.ay.length Z))) wr)/\Hid (wr.ownsRow (w.heap.size+1) 3 1 v K.length (bg K))) (λ_ i _=>l.length-(intOf i).toNat)
 case atStart=>exact ⟨0,[],ar _,ai _,rfl,HR,aa (λx hx=>by cases hx),aa (ag _ _),aa (bd _ _ _ _)⟩
 case round =>
  clear HR fa;obtain⟨k,K,hk,gu,rfl,HR,b3,HB,HO⟩:=hrel;obtain⟨wo,rfl⟩:∃wo:ω,wo=wr:=⟨_,rfl⟩;obtain⟨kA,e8,rfl⟩:=cd HO.out;by_cases c1:k<l.length
  . obtain⟨V,Y,f7,f8,eb⟩:=HE.out k _ (ae c1);subst f7;have f1:Hid (∀W,κ w W->W.cell? (δ V (Y+k))=some (ι l[k])):=aa λW U=>by have:=(U.cell (p:=(δ V (Y+k*1))) f8).trans eb;rwa [bq]at this
    have ax:=HR.out;rw[nf _ l k c1,a7r]at ax;have b6:=aa ax;have dy:=aa (HX.out _ (bw c1));generalize l[k]=x at *;obtain⟨d,rfl,c2⟩:=dy.out;have cl:Hid (∀W,κ (w.alloc (bu C.vars (.slice sA C.ab.length ak) (.slice tA C.ay.length Z))) W->(W.cell? (δ w.heap.size 0)=some (ι C.vars)/\W.cell? (δ w.heap.size 1)=some (.slice sA C.ab.length ak)/\W.cell? (δ w.heap.size 2)=some (.slice tA C.ay.length Z))/\W.cell? (δ V (Y+k))=some (ι (d:Int))):=aa λW U=>⟨bc U,f1.out W (aj U)⟩;have gx:(k:Int)<(l.length:Int):=(by omega);have gg:decide ((d:Int)<0)=false:=(by simp);have gi:decide ((C.ay.length:Int)<=(d:Int))=false:=(by simp;omega);clear ax eb dy HR;go_wp2_with fail;refine cr (λW=>(W.cell? (δ w.heap.size 0)=some (ι C.vars)/\W.cell? (δ w.heap.size 1)=some (.slice sA C.ab.length ak)/\W.cell? (δ w.heap.size 2)=some (.slice tA C.ay.length Z))/\W.cell? (δ V (Y+k))=some (ι (d:Int))) [] ?_;try simp only[Act.put,sx]
    have ad:=aa HB.out.drew;have c7:=aa (bl HO.out (ag _ _).drew);generalize wo.drew=w2 at *;have J:=cl.out _ ad.out;refine af 0 (.slice (some (δ V Y)) l.length b9) ?_;refine af 1 (ι (k:Int)) ?_;refine af 2 (φ V (Y+k)) ?_;refine a7 3 (ι (d:Int)) (J) ?_;refine af 4 (.bool false) ?_;refine af 5 (.bool false) ?_;refine af 6 (.slice (some (δ V Y)) l.length b9) ?_;refine af 7 (ι (k:Int)) ?_;refine af 8 (φ V (Y+k)) ?_;refine a7 9 (ι (d:Int)) (J) ?_;refine af 10 (φ w.heap.size 2) ?_;refine a7 11 (.slice tA C.ay.length Z) (J) ?_;refine af 12 (ι (C.ay.length:Int)) ?_;refine af 13 (.bool false) ?_;refine af 14 (.bool false) ?_;try simp only[Act.put,sx]
    refine ce ?_;clear J gg gi HB HO;have f0:=aa (dc c7.out);have cb:Hid (w.heap.size+1<=w2.heap.size):=aa (by have:=ad.out.size;simpa using this);go_wp2_with fail;go_loopw [9,10,11] (λf v i wr=>∃(m:Nat)(F:Bool)(O:List Int),m<=K.length/\O.length<=m/\i=ι (m:Int)/\f=.bool F/\Hid (κ w2 wr)/\Hid (wr.ownsRow w2.heap.size 3 1 v O.length (bg O))/\Hid (F=true->O=(K.take m).filter (λk=>!clI Q (d:Int) k)/\((K.take m).any λk=>clI Q (d:Int) k&&!inI C (d:Int) k)=false)/\Hid (F=false->(K.any λk=>clI Q (d:Int) k&&!inI C (d:Int) k)=true)) (λf _ i _=>2*(K.length-(intOf i).toNat))
    case atStart=>exact ⟨0,true,[],ar _,ai _,rfl,rfl,aa (ag _ _),aa (bd _ _ _ _),aa (λ_=>⟨rfl,rfl⟩),aa (λh=>by cases h)⟩
    case round =>
     obtain⟨m,F,O,hm,gv,rfl,rfl,a9,bf,c4,c3⟩:=hrel
     obtain⟨w3,rfl⟩:∃w3:ω,w3=wr:=⟨_,rfl⟩
     obtain⟨fA,gs,rfl⟩:=cd bf.out
     have a1:=aa (ad.out.trans (a9.out.mono ad.out.size))
     cases F with
     | false =>
      have b5:Hid (R=(l.drop (k+1)).foldl (yi C Q) K):=aa (by rw[b6.out,ao (c3.out rfl)])
      have bb:=aa (bl c7.out a9.out)
      by_cases a3:m<K.length
      . go_wp2
        go_roundw
        case rel=>exact ⟨k+1,K,by omega,by omega,by go_num,b5,b3,a1,bb⟩
        case measure=>simp[intOf];omega
      . go_wp2
        go_roundw
        case rel=>exact ⟨k+1,K,by omega,by omega,by go_num,b5,b3,a1,bb⟩
        case measure=>simp[intOf];omega
     | true =>
      obtain⟨a2,bs⟩:=c4.out rfl
      by_cases a3:m<K.length
      . obtain⟨kb,ko,f5,f6,d6⟩:=(let ⟨_,_,h1,_,h3⟩:=f0.out;by injection h1 with e1 e2 e3;subst e1;exact h3 m _ (ae a3):∃b o,kA=some (δ b o)/\b<w2.heap.size/\d7 w2 b (o+m*1) K[m])
        subst f5
        have c5:Hid (∀W,κ w2 W->W.cell? (δ kb (ko+m))=some (ι K[m])):=aa λW U=>by
         have:=(U.cell (p:=(δ kb (ko+m*1))) f6).trans d6
         rwa [bq]at this
        have d0:=aa (b3.out _ (bw a3))
        have am:=aa (aqq (λk=>!clI Q (d:Int) k) a3)
        have al:=aa (a2g (λk=>clI Q (d:Int) k&&!inI C (d:Int) k) a3)
        have a0:Hid ((clI Q (d:Int) K[m]&&!inI C (d:Int) K[m])=true->(K.any λk=>clI Q (d:Int) k&&!inI C (d:Int) k)=true):=aa λh=>iz.2 ⟨_,bw a3,h⟩
        rw[<-a2]at am
        rw[bs]at al
        generalize K[m]=y at *
        obtain⟨z,rfl,er⟩:=d0.out
        obtain⟨E,I,gk,hq,hh,f9,_,f3,ek,_⟩:=HC.out.2.at_ c2
        injection f9 with e1 e2 e3
        subst e1
        obtain⟨b2,o2,gl,hr,ho,gb,_,f4,el,_⟩:=HC.out.2.at_ er
        injection gb with e4 e5 e6
        injection e4 with e4
        injection e4 with e4 e7
        subst e4;subst e7
        have f2:Hid (∀W,κ w W->W.cell? (δ E (I+d*6))=some (ι (es C.ay (d:Int)).src)/\W.cell? (δ E (I+z*6))=some (ι (es C.ay (z:Int)).src)):=aa λW U=>⟨(ek.below U f3).1,(el.below U f4).1⟩
        have fn:Hid (inI C (d:Int) (z:Int)=jc C.ab (es C.ay (d:Int)).src (es C.ay (z:Int)).src):=aa rfl
        have b7:Hid (∀W,κ w2 W->(((W.cell? (δ w.heap.size 0)=some (ι C.vars)/\W.cell? (δ w.heap.size 1)=some (.slice sA C.ab.length ak)/\W.cell? (δ w.heap.size 2)=some (.slice (some (δ E I)) C.ay.length Z))/\W.cell? (δ V (Y+k))=some (ι (d:Int)))/\W.cell? (δ kb (ko+m))=some (ι (z:Int)))/\W.cell? (δ E (I+d*6))=some (ι (es C.ay (d:Int)).src)/\W.cell? (δ E (I+z*6))=some (ι (es C.ay (z:Int)).src)):=aa λW U=>⟨⟨cl.out W (ad.out.trans (U.mono ad.out.size)),c5.out W U⟩,f2.out W (aj (ad.out.trans (U.mono ad.out.size)))⟩
        have g4:(m:Int)<(K.length:Int):=by omega
        have he:(d:Int)<(C.ay.length:Int):=by omega
        have hf:(z:Int)<(C.ay.length:Int):=by omega
        generalize (es C.ay (d:Int)).src=sx at *
        generalize (es C.ay (z:Int)).src=sy at *
        clear ek el e2 e3 e5 e6 d6 a2 bs c4 c3 d0
        go_wp2_with fail
        refine cr (λW=>(((W.cell? (δ w.heap.size 0)=some (ι C.vars)/\W.cell? (δ w.heap.size 1)=some (.slice sA C.ab.length ak)/\W.cell? (δ w.heap.size 2)=some (.slice (some (δ E I)) C.ay.length Z))/\W.cell? (δ V (Y+k))=some (ι (d:Int)))/\W.cell? (δ kb (ko+m))=some (ι (z:Int)))/\W.cell? (δ E (I+d*6))=some (ι sx)/\W.cell? (δ E (I+z*6))=some (ι sy)) [] ?_
        try simp only[Act.put,sx]
        have a4:=aa a9.out.drew
        have bb:=aa (bl bf.out (ag _ _).drew)
        generalize w3.drew=w4 at *
        have J:=b7.out _ a4.out
        refine a7 0 (.agg #[ι C.vars,.slice sA C.ab.length ak,.slice (some (δ E I)) C.ay.length Z]) (J) ?_
        refine af 1 (.int .u32 (n:Int)) ?_
        refine af 2 (.slice (some (δ V Y)) l.length b9) ?_
        refine af 3 (ι (k:Int)) ?_
        refine af 4 (φ V (Y+k)) ?_
        refine a7 5 (ι (d:Int)) (J) ?_
        refine af 6 (.slice (some (δ kb ko)) K.length e8) ?_
        refine af 7 (ι (m:Int)) ?_
        refine af 8 (φ kb (ko+m)) ?_
        refine a7 9 (ι (z:Int)) (J) ?_
        try simp only[Act.put,sx]
        clear J
        refine a8 10 (λK HK=>?_)
        go_simp
        refine(fg.out _ (aj (ad.out.trans (a4.out.mono ad.out.size))) d z c2 er).mono ?_
        rintro e w5⟨rfl,co⟩
        have ca:=aa (a4.out.trans (co.mono a4.out.size))
        have db:=aa (bl bb.out co)
        have d4:=b7.out _ ca.out
        clear co a4 bb a9 bf
        go_simp
        refine HK.out _ _ (λ_ hS=>d4) ?_
        clear HK K
        try simp only[Act.put,sx]
        clear d4
        refine af 11 (.bool (clI Q (d:Int) (z:Int))) ?_
        try simp only[Act.put,sx]
        refine ce ?_
        go_wp2_with fail
        refine cr (λW=>(((W.cell? (δ w.heap.size 0)=some (ι C.vars)/\W.cell? (δ w.heap.size 1)=some (.slice sA C.ab.length ak)/\W.cell? (δ w.heap.size 2)=some (.slice (some (δ E I)) C.ay.length Z))/\W.cell? (δ V (Y+k))=some (ι (d:Int)))/\W.cell? (δ kb (ko+m))=some (ι (z:Int)))/\W.cell? (δ E (I+d*6))=some (ι sx)/\W.cell? (δ E (I+z*6))=some (ι sy)) [] ?_
        try simp only[Act.put,sx]
        have a5:=aa ca.out.drew
        have ds:=aa (bl db.out (ag _ _).drew)
        generalize w5.drew=w6 at *
        have J:=b7.out _ a5.out
        refine a7 0 (.agg #[ι C.vars,.slice sA C.ab.length ak,.slice (some (δ E I)) C.ay.length Z]) (J) ?_
        refine af 1 (φ w.heap.size 2) ?_
        refine a7 2 (.slice (some (δ E I)) C.ay.length Z) (J) ?_
        refine af 3 (.slice (some (δ V Y)) l.length b9) ?_
        refine af 4 (ι (k:Int)) ?_
        refine af 5 (φ V (Y+k)) ?_
        refine a7 6 (ι (d:Int)) (J) ?_
        refine af 7 (φ E (I+d*6)) ?_
        refine af 8 (φ E (I+d*6)) ?_
        refine a7 9 (ι sx) (J) ?_
        refine af 10 (φ w.heap.size 2) ?_
        refine a7 11 (.slice (some (δ E I)) C.ay.length Z) (J) ?_
        refine af 12 (.slice (some (δ kb ko)) K.length e8) ?_
        refine af 13 (ι (m:Int)) ?_
        refine af 14 (φ kb (ko+m)) ?_
        refine a7 15 (ι (z:Int)) (J) ?_
        refine af 16 (φ E (I+z*6)) ?_
        refine af 17 (φ E (I+z*6)) ?_
        refine a7 18 (ι sy) (J) ?_
        try simp only[Act.put,sx]
        clear J ca db
        refine a8 19 (λK HK=>?_)
        go_simp
        refine(ze C.vars sy _ _ C (by unfold dw;omega) _ sx _ (ai _) (HC.out.below (aj (ad.out.trans (a5.out.mono ad.out.size))))).mono ?_
        rintro e w7⟨rfl,cv⟩
        rw[<-fn.out]
        have av:=aa (a5.out.trans (cv.mono a5.out.size))
        have b4:=aa (bl ds.out cv)
        have d5:=b7.out _ av.out
        clear cv a5 ds
        go_simp
        refine HK.out _ _ (λ_ hS=>d5) ?_
        clear HK K
        try simp only[Act.put,sx]
        clear d5
        refine af 20 (.bool (inI C (d:Int) (z:Int))) ?_
        try simp only[Act.put,sx]
        refine ce ?_
        have hd:=av.out.size
        cases bk:clI Q (d:Int) (z:Int) with
        | false =>
         rw[bk]at am al
         have cc:Hid (O ++ [(z:Int)]=(K.take (m+1)).filter (λk=>!clI Q (d:Int) k)/\((K.take (m+1)).any λk=>clI Q (d:Int) k&&!inI C (d:Int) k)=false):=aa ⟨by rw[am.out];rfl,by rw[al.out];rfl⟩
         have c0:=c5.out _ av.out
         clear bk am al a0
         go_wp2_with (at_builtin;refine wpList_append_own_at _ rfl _ _ 36 rfl (w2.heap.size) 3 i0 (ι 0) 1 8 underlying36 HI.out d1.out d2.out d3.out rfl (by decide) _ _ _ rfl (b4.out.alloc _) (δ w7.heap.size 0) 1 1 [ι (z:Int)] rfl rfl (g8 _ _ _ _ rfl) (fl _) (by unfold maxLen;omega) (by omega) (by simp;omega) ?_)
         intro v' w8 b0 bt _ _
         have HG:=aa (ck (av.out.alloc av.out.size _) bt (by simp;omega) (λg hg=>by have:=(b4.out.lt g hg).1;simpa using this))
         have ci:Hid (w8.ownsRow w2.heap.size 3 1 v' (O ++ [(z:Int)]).length (bg (O ++ [(z:Int)]))):=aa (by rw[dp];simpa using b0)
         clear b0 bt c0
         go_wp2
         go_roundw
         case rel=>exact ⟨m+1,true,O ++ [(z:Int)],by omega,by simp;omega,by go_num,rfl,HG,ci,aa (λ_=>cc.out),aa (λh=>by cases h)⟩
         case measure=>simp[intOf];omega
        | true =>
         rw[bk]at am al a0
         cases b8:inI C (d:Int) (z:Int) with
         | true =>
          rw[b8]at al
          have cc:Hid (O=(K.take (m+1)).filter (λk=>!clI Q (d:Int) k)/\((K.take (m+1)).any λk=>clI Q (d:Int) k&&!inI C (d:Int) k)=false):=aa ⟨by rw[am.out];rfl,by rw[al.out];rfl⟩
          clear bk b8 am al a0
          go_wp2
          go_roundw
          case rel=>exact ⟨m+1,true,O,by omega,by omega,by go_num,rfl,av,b4,aa (λ_=>cc.out),aa (λh=>by cases h)⟩
          case measure=>simp[intOf];omega
         | false =>
          rw[b8]at a0
          have e9:=aa (a0.out rfl)
          clear bk b8 am al a0
          go_wp2
          go_roundw
          case rel=>exact ⟨m+1,false,O,by omega,by omega,by go_num,rfl,av,b4,aa (λh=>by cases h),aa (λ_=>e9.out)⟩
          case measure=>simp[intOf];omega
      . obtain rfl:m=K.length:=by omega
        rw[ed]at a2 bs
        have b5:Hid (R=(l.drop (k+1)).foldl (yi C Q) (O ++ [(d:Int)])):=aa (by rw[b6.out,ah (by rw[bs];simp),a2])
        have fv:Hid (∀x∈O ++ [(d:Int)],∃j:Nat,x=(j:Int)/\j<C.ay.length):=aa λx hx=>by
         rcases j9.1 hx with hx | hx
         . rw[a2]at hx;exact b3.out x (ey.1 hx).1
         . rw[cf.1 hx];exact ⟨d,rfl,c2⟩
        have c0:=(cl.out _ a1.out).2
        have ha:=a1.out.size
        have hc:=a9.out.size
        clear a2 bs
        go_wp2_with (at_builtin;refine wpList_append_own_at _ rfl _ _ 36 rfl (w2.heap.size) 3 i0 (ι 0) 1 8 underlying36 HI.out d1.out d2.out d3.out rfl (by decide) _ _ _ rfl (bf.out.alloc _) (δ w3.heap.size 0) 1 1 [ι (d:Int)] rfl rfl (g8 _ _ _ _ rfl) (fl _) (by unfold maxLen;omega) (by omega) (by simp;omega) ?_)
        intro v' w8 b0 bt _ _
        have HG:=aa (ck (a1.out.alloc a1.out.size _) bt (by have:=cb.out;simp;omega) (λg hg=>by have:=(bf.out.lt g hg).1;have:=cb.out;simp;omega))
        have ci:Hid (w8.ownsRow (w.heap.size+1) 3 1 v' (O ++ [(d:Int)]).length (bg (O ++ [(d:Int)]))):=aa (by rw[dp];exact fp (by simpa using b0) cb.out)
        clear b0 bt c0
        go_wp2
        go_roundw
        case rel=>exact ⟨k+1,O ++ [(d:Int)],by omega,by simp;omega,by go_num,b5,fv,HG,ci⟩
        case measure=>simp[intOf];omega
  . obtain rfl:k=l.length:=(by omega);have ax:=HR.out;rw[bz,dv]at ax;have b6:=aa ax;clear ax;go_wp2;go_ret;exact⟨aj HB.out,_,rfl,by rw[b6.out];exact fp HO.out (by omega)⟩
theorem a56{L:List Int}{D:Int->Bool}{j:Nat}(y:j<L.length)(h:(L.take j).all D=true)(d:D L[j]=true):(L.take (j+1)).all D=true:=by rw[cp y,List.all_append,h];simp[d]
theorem a5y{L:List Int}{D:Int->Bool}{j:Nat}(y:j<L.length)(h:(L.take j).any D=false)(d:D L[j]=false):(L.take (j+1)).any D=false:=by rw[cp y,mq,h];simp[d]
section
variable {w0 wM:World} {M:Nat→Prop} {g ba:Nat} {vs vt:Value} {C:Ch} {fu:Int} {w w':World} {vh ve vi vo:Value} {X:Se}
def a91(w0 wM:ω)(M:Nat->Prop)(g ba:Nat)(vs vt:Value)(C:Ch)(fu:Int)(vh ve vi vo:Value)(X:Se)(f:Nat):Prop :=
 ∀(s:Int)(w:ω),c6 C.ab s=true->C.ab.length<f+s.toNat->ej w0 wM M g ba vs vt C fu w vh ve vi vo X->
  Calls prog 107 #[φ g 0,ι s] w λe w'=>e=.returned (.bool (ku C.ab X.a f s))/\κ w w'
theorem ari(hC:d8 w0 vs vt C)(hT:l1 C.ab):∀f:Nat,a91 w0 wM M g ba vs vt C fu vh ve vi vo X f
 | 0=>λs w hs hf hS=>by have:=fj.1 hs;omega
 | f+1=>λs w hs hf hS=>by
  have IH:=aa (ari hC hT f);have d4:=hT.len;obtain⟨k,rfl,hk⟩:=fq hs;obtain⟨sA,c5,tA,c7,rfl,rfl⟩:=hC.slices;obtain⟨b,o,db,ui,ue,ux,co,_,b2,bb,b3⟩:=hC.st hk;injection co with e1 e2 e3;subst e1;have HC:=aa hC;have HS:=aa hS;have b0:=aa bb;have bs:=aa (am8 C.vars (k:Int) (.slice (some (δ b o)) C.ab.length c5) (.slice tA C.ay.length c7) C w (hC.below hS.below) (by omega));have b6:Hid (∀x∈lj C.ab (k:Int),c6 C.ab x=true/\(k:Int)<x):=aa (λx hx=>by obtain ⟨a1,a2,a3,a4,a5⟩:=hT.aty (by omega) hx;exact⟨a1,a4⟩);obtain⟨⟨O,Q,U,V,W⟩,Y,Z,x7,x8,x9⟩:=hS.cells;have d3:=ak6 C.ab (k:Int);have d2:C.ab.length<f+1+k:=by omega
  by_cases h3:(aq C.ab (k:Int)).kind=3
  . have HR:Hid (ku C.ab X.a (f+1) (k:Int)=(lj C.ab (k:Int)).all (ku C.ab X.a f)):=aa (by rw[ku,ah (by rw[h3];decide),ao h3]);have cb:=aa h3;generalize lj C.ab (k:Int)=L at *;clear hC hT hS hs hf bb b3 e2 e3 h3;go_enter func107,ntmps107;go_wp2_with fail;refine bs.mono ?_;rintro e w1⟨E,v1,rfl,ad⟩;obtain⟨A1,b7,rfl,b8,al⟩:=dc ad;have y:=aa E;have bk:=aa al;have F:=aa (HS.after E);obtain⟨c0,c1,c2,c3,c4⟩:=b0.below F.below b2;rw[cb.out]at c0;clear E al ad O Q U V W Y Z x7 x8 x9;obtain⟨⟨O,Q,U,V,W⟩,Y,Z,x7,x8,x9⟩:=F.cells;go_wp2_with fail;go_loopw [6] (λi wr=>∃j:Nat,j<=L.length/\i=ι (j:Int)/\κ w1 wr/\Hid ((L.take j).all (ku C.ab X.a f)=true)) (λi _=>L.length-(intOf i).toNat)
    case atStart=>exact ⟨0,ar _,rfl,ag _ _,aa (by simp)⟩
    case round =>
     obtain⟨j,hj,rfl,z,HO⟩:=hrel;obtain⟨I,rfl⟩:∃I:ω,I=wr:=⟨_,rfl⟩;clear O Q U V W Y Z x7 x8 x9 c0 c1 c2 c3 c4;by_cases J:j<L.length
     . obtain⟨mb,mo,rfl,b4,ax⟩:=bk.out j _ (ae J);have d0:I.cell? (δ mb (mo+j))=some (ι L[j]):=(by have:=d7.keeps w1 I mb _ _ z b4 ax;rwa [bq]at this);obtain⟨a0,b5⟩:=b6.out L[j] (bw J);have a9:=aa (IH.out L[j] I a0 (by omega) (F.after z));have am:=aa (λh=>a56 J HO h);have ak:Hid (ku C.ab X.a f L[j]=false->L.all (ku C.ab X.a f)=false):=aa (λh=>List.all_eq_false.2 ⟨L[j],bw J,by rw[h];simp⟩);have d:=aa z;generalize L[j]=x at *;clear ax z a0 b5;cases hd:ku C.ab X.a f x with
       | true =>
        rw[hd]at a9;have HY:=aa (am hd);clear hd;go_wp2_with fail;refine a9.mono ?_;rintro e w2⟨rfl,av⟩;have bf:=aa (d.trans (av.mono d.size));clear av;go_wp2;go_roundw
        case rel=>exact ⟨j+1,by omega,by go_num,bf,HY⟩
        case measure=>simp[intOf];omega
       | false =>rw[hd]at a9;have HN:=aa (ak hd);clear hd;go_wp2_with fail;refine a9.mono ?_;rintro e w2⟨rfl,av⟩;have bf:=aa (d.trans (av.mono d.size));clear av;go_wp2;go_ret;exact⟨by rw[HR.out,HN.out];rfl,y.trans (bf.mono y.size)⟩
     . obtain rfl:j=L.length:=(by omega);have bt:Hid (L.all (ku C.ab X.a f)=true):=aa (by have:=HO.out;rwa [ed]at this);have d:=aa z;go_wp2;go_ret;exact⟨by rw[HR.out,bt.out];rfl,y.trans (d.mono y.size)⟩
  . have cc:((aq C.ab (k:Int)).kind==3)=false:=(by simpa using h3);by_cases h2:(aq C.ab (k:Int)).kind=2
    . have HR:Hid (ku C.ab X.a (f+1) (k:Int)=(lj C.ab (k:Int)).any λx=>apd X.a x&&decide ((aq C.ab x).kind=4)):=aa (by rw[ku,ao h2]);have ca:=aa h2;generalize lj C.ab (k:Int)=L at *;clear hC hT hS hs hf bb b3 e2 e3 h3 cc h2;go_enter func107,ntmps107;go_wp2_with fail;refine bs.mono ?_;rintro e w1⟨E,v1,rfl,ad⟩;obtain⟨A1,b7,rfl,b8,al⟩:=dc ad;have y:=aa E;have bk:=aa al;have F:=aa (HS.after E);obtain⟨c0,c1,c2,c3,c4⟩:=b0.below F.below b2;rw[ca.out]at c0;clear E al ad O Q U V W Y Z x7 x8 x9;obtain⟨⟨O,Q,U,V,W⟩,Y,Z,x7,x8,x9⟩:=F.cells;go_wp2_with fail;go_loopw [8] (λi wr=>∃j:Nat,j<=L.length/\i=ι (j:Int)/\κ w1 wr/\Hid ((L.take j).any (λx=>apd X.a x&&decide ((aq C.ab x).kind=4))=false)) (λi _=>L.length-(intOf i).toNat)
      case atStart=>exact ⟨0,ar _,rfl,ag _ _,aa (by simp)⟩
      case round =>
       obtain⟨j,hj,rfl,z,HO⟩:=hrel;obtain⟨I,rfl⟩:∃I:ω,I=wr:=⟨_,rfl⟩;clear O Q U V W Y Z x7 x8 x9 c0 c1 c2 c3 c4;by_cases J:j<L.length
       . obtain⟨mb,mo,rfl,b4,ax⟩:=bk.out j _ (ae J);have d0:I.cell? (δ mb (mo+j))=some (ι L[j]):=(by have:=d7.keeps w1 I mb _ _ z b4 ax;rwa [bq]at this);obtain⟨a0,b5⟩:=b6.out L[j] (bw J);have ak:=aa (λh=>a5y (D:=λx=>apd X.a x&&decide ((aq C.ab x).kind=4)) J HO h);have am:Hid ((apd X.a L[j]&&decide ((aq C.ab L[j]).kind=4))=true->L.any (λx=>apd X.a x&&decide ((aq C.ab x).kind=4))=true):=aa (λh=>iz.2 ⟨L[j],bw J,h⟩);have d:=aa z;have b1:=aa (F.after z);obtain⟨⟨O,Q,U,V,W⟩,Y,Z,x7,x8,x9⟩:=b1.cells;generalize L[j]=x at *;obtain⟨m,rfl,hm⟩:=fq a0;obtain⟨b',o',ds,d6,d5,eb,cv,_,ci,b9,cl⟩:=HC.st hm;injection cv with e1 e2 e3;injection e1 with e1;injection e1 with e4 e5;subst e4;subst e5;obtain⟨c0,c1,c2,c3,c4⟩:=b9.below b1.below ci;obtain⟨q0,q1⟩:=b1.act.cell hm;rw[asm]at ak am;generalize (aq C.ab (m:Int)).kind=K at *;clear ax z a0 b5 b9 cl e2 e3;cases ha:X.a m with
         | false =>
          rw[ha]at q0 ak;clear ha;go_wp2_with fail;go_quiet (fail);go_wp2;go_roundw
          case rel=>exact ⟨j+1,by omega,by go_num,bx d _,aa (ak rfl)⟩
          case measure=>simp[intOf];omega
         | true =>
          rw[ha]at q0 ak am;clear ha;by_cases hK:K=4
          . subst hK;go_wp2_with fail;go_quiet (fail);go_wp2;go_ret;exact⟨by rw[HR.out,am.out rfl];rfl,bx (y.trans (d.mono y.size)) _⟩
          . have d1:(K==4)=false:=(by simpa using hK);have HN:=aa (ak (by simpa using hK));clear hK;go_wp2_with fail;go_quiet (fail);go_wp2;go_roundw
            case rel=>exact ⟨j+1,by omega,by go_num,bx d _,HN⟩
            case measure=>simp[intOf];omega
       . obtain rfl:j=L.length:=(by omega);have bt:Hid (L.any (λx=>apd X.a x&&decide ((aq C.ab x).kind=4))=false):=aa (by have:=HO.out;rwa [ed]at this);have d:=aa z;go_wp2;go_ret;exact⟨by rw[HR.out,bt.out];rfl,y.trans (d.mono y.size)⟩
    . have HR:Hid (ku C.ab X.a (f+1) (k:Int)=false):=aa (by rw[ku,ah h2,ah h3]);have dy:((aq C.ab (k:Int)).kind != 2)=true:=(by simpa using h2);generalize lj C.ab (k:Int)=L at *;clear hC hT hS hs hf b3 e2 e3 h3 h2;go_enter func107,ntmps107;go_wp2_with fail;refine bs.mono ?_;rintro e w1⟨E,v1,rfl,ad⟩;have y:=aa E;have F:=aa (HS.after E);obtain⟨A1,b7,rfl,b8,al⟩:=dc ad;obtain⟨c0,c1,c2,c3,c4⟩:=b0.below F.below b2;generalize (aq C.ab (k:Int)).kind=K at *;clear E al ad bb O Q U V W Y Z x7 x8 x9;obtain⟨⟨O,Q,U,V,W⟩,Y,Z,x7,x8,x9⟩:=F.cells;go_wp2;go_ret;exact⟨by rw[HR.out];rfl,y⟩
end
theorem yc(C:Ch)(z:fewB C=true)(s:Int):((aq C.ab s).kv.length<=40/\∀a∈(aq C.ab s).kv,a.expr.size<=1000000)/\((aq C.ab s).me.length<=40/\∀a∈(aq C.ab s).me,a.expr.size<=1000000):=by
 unfold aq;rcases et s.toNat C.ab.length with y | y
 . have:=(fx z).2.2.1 s.toNat y;unfold p7 at this;simp only[bj,bi]at this;exact⟨ny this.1.1,ny this.1.2⟩
 . rw[bv,cn y];exact⟨⟨by decide,λa d=>by cases d⟩,⟨by decide,λa d=>by cases d⟩⟩
theorem adb{S:List St}(d:∀s,(aq S s).kv.length<=40){n:Nat}{X:Se}(P:Nat->Bool)(h:ug n X):∀k:Nat,ug (n+3*k) (jq S P k X)
 | 0=>h
 | k+1=>by
  have y:=adb d P h k;rw[jq];split
  . exact(ad2 d _ y).mono (by omega)
  . exact y.mono (by omega)
section
variable {w0 wM:World} {M:Nat→Prop} {g ba:Nat} {vs vt:Value} {C:Ch} {fu:Int} {w w':World} {vh ve vi vo:Value} {X:Se}
theorem aig(hC:d8 w0 vs vt C)(hT:l1 C.ab)(hF:fewB C=true)(hS:ej w0 wM M g ba vs vt C fu w vh ve vi vo X){q:Nat}(hX:ug q X)(hq:q<=5000)(n:Nat)(hn:n<4294967296) :
 Calls prog 55 #[φ g 0,.int .u32 (n:Int)] w (adk w0 wM M g ba vs vt C fu (jq C.ab (cm n) C.ab.length X)):=by
 obtain⟨i0,HI,db,ds,dy⟩:=ιp Tryz.info3;have hf:=hT.len;obtain⟨sA,bk,tA,b9,rfl,rfl⟩:=hC.slices;have HC:=aa hC;have HT:=aa hT;have HS:=aa hS;have fa:Hid (∀(k:Nat)(hk:k<=31)(W:ω),Calls prog 105 #[.int .u32 (n:Int),ι (k:Int)] W λe w'=>e=.returned (.bool (cm n k))/\W=w'):=aa (λ(k:Nat)(hk:k<=31)(W:ω)=>m0 n k hn (by omega) W);have HU:Hid (∀k,jq C.ab (cm n) (k+1) X=if cm n k=true/\(jq C.ab (cm n) k X).a k=false then enS C.ab (k:Int) (jq C.ab (cm n) k X) else jq C.ab (cm n) k X):=aa λk=>rfl;have f4:Hid (∀k,ug (q+3*k) (jq C.ab (cm n) k X)):=aa λk=>adb (λs=>(yc C hF s).1.1) (cm n) hX k;have f3:Hid (jq C.ab (cm n) 0 X=X):=aa rfl;have bs:=aa (λs=>(yc C hF s).1);generalize jq C.ab (cm n)=U at *;clear hC hT hF hS hX;go_enter func55,ntmps55;go_wp2_with fail;go_loopw [4] (λi wr=>∃(k:Nat)(e0 ev e7 e8:Value),k<=C.ab.length/\i=ι (k:Int)/\Hid (ej w0 wM M g ba (.slice sA C.ab.length bk) (.slice tA C.ay.length b9) C fu wr e0 ev e7 e8 (U k X))) (λi _=>C.ab.length-(intOf i).toNat)
 case atStart=>exact ⟨0,_,_,_,_,ar _,rfl,aa (by rw[f3.out];exact HS)⟩
 case round =>
  obtain⟨k,e0,ev,e7,e8,hk,rfl,F⟩:=hrel;obtain⟨wo,rfl⟩:∃wo:ω,wo=wr:=⟨_,rfl⟩;have y:=HU.out k;have cl:=aa (f4 k);obtain⟨⟨x0,x1,x2,x3,x4⟩,x5,x6,x7,x8,x9⟩:=F.cells;by_cases bf:k<C.ab.length
  . have a3:=fa.out k (by omega);obtain⟨q0,q1⟩:=F.act.cell bf;have HY:Hid (∃Y,U k X=Y):=aa ⟨_,rfl⟩;obtain⟨Y,hY⟩:=HY.out;rw[hY]at F cl q0 y;cases Q:cm n k with
    | false =>
     rw[Q,ah (by simp)]at y;have ak:=aa a3;have av:=aa y;rw[Q]at ak;clear Q y hY a3;go_wp2_with fail;refine(ak _).mono ?_;rintro e w2⟨rfl,rfl⟩;go_wp2;go_roundw
     case rel=>exact ⟨k+1,_,_,_,_,by omega,by go_num,aa (by rw[av.out];exact F)⟩
     case measure=>simp[intOf];omega
    | true =>
     have ak:=aa a3
     rw[Q]at ak
     cases ha:Y.a k with
     | true =>
      rw[ha,ah (by simp)]at y
      rw[ha]at q0
      have av:=aa y
      clear Q y hY ha a3
      go_wp2_with fail
      refine(ak _).mono ?_
      rintro e w2⟨rfl,rfl⟩
      go_wp2
      go_roundw
      case rel=>exact ⟨k+1,_,_,_,_,by omega,by go_num,aa (by rw[av.out];exact F)⟩
      case measure=>simp[intOf];omega
     | false =>
      rw[Q,ha,ao ⟨rfl,rfl⟩]at y
      rw[ha]at q0
      have av:=aa y
      obtain⟨b,o,gx,ui,ue,ux,gl,_,d6,ek,hh⟩:=HC.st bf
      injection gl with E e2 e3
      subst E
      have co:=aa ek
      have fg:=aa hh
      obtain⟨iA,hj,eA,g3,xA,hv,rfl,rfl,rfl⟩:=hh.slices
      have a5:=aa (F.bc2 k)
      obtain⟨O,I,c2,c3,c4⟩:=co.below a5.below d6
      have hg:=F.ne
      obtain⟨⟨y0,y1,y2,y3,y4⟩,y5,y6,y7,y8,y9⟩:=a5.cells
      have cv:=aa (agd cl (de Y.a (k:Int)))
      have ca:=aa (aez a5 cv (by omega) _ (aq C.ab (k:Int)).kv (fg.2.1.below a5.below) (bs (k:Int)).1 (bs (k:Int)).2)
      have c7:=aa (agu cv (bs (k:Int)).1)
      obtain⟨Z,hZ⟩:∃Z,doS (aq C.ab (k:Int)).kv (Y.ta (de Y.a (k:Int)))=Z:=⟨_,rfl⟩
      have cc:Hid (enS C.ab (k:Int) Y=if (aq C.ab (k:Int)).kind=4 then vf C.ab (aq C.ab (k:Int)).par Z else Z):=aa (by rw[<-hZ];rfl)
      rw[hZ]at ca c7
      clear Q y hY ha a3 ek hh e2 e3 hZ
      go_wp2_with fail
      refine(ak _).mono ?_
      rintro e w2⟨rfl,rfl⟩
      go_wp2_with fail
      refine ca.mono ?_
      rintro e w3⟨rfl,e6,ex,gv,e9,eg⟩
      have al:=aa eg
      clear eg x0 x1 x2 x3 x4 x5 x6 x7 x8 x9 y0 y1 y2 y3 y4 y5 y6 y7 y8 y9 O I c2 c3 c4 q0 q1
      obtain⟨⟨x0,x1,x2,x3,x4⟩,x5,x6,x7,x8,x9⟩:=al.cells
      obtain⟨z4,z5,z6,z7,z8⟩:=al.ww
      obtain⟨O,I,c2,c3,c4⟩:=co.below al.below d6
      by_cases ad:(aq C.ab (k:Int)).kind=4
      . have gi:0<(k:Int):=by
         rcases mf k with h | h
         . subst h
           have:=HT.first
           rw[show (((0:Nat):Int))=0 from rfl,this]at ad
           omega
         . omega
        have a4:=HT.up (k:Int) (ll bf) gi
        have b7:=HT.par (k:Int) (ll bf)
        obtain⟨u1,u2,u3⟩:=n5 a4
        obtain⟨p,hp⟩:∃p:Nat,(aq C.ab (k:Int)).par=(p:Int):=⟨(aq C.ab (k:Int)).par.toNat,by omega⟩
        have b8:p<C.ab.length:=by omega
        rw[ad]at O
        rw[hp]at I
        have ci:Hid (U (k+1) X=vf C.ab (p:Int) Z):=aa (by rw[av.out,cc.out,ao ad,hp])
        clear a4 b7 u1 u2 u3 hp ad
        by_cases gk:p=0
        . subst gk
          have z:Hid (U (k+1) X=Z.lq 2):=aa (by rw[ci.out];unfold vf;rw[ao (by simp)])
          have J:=aa (al.lq 2)
          go_wp2
          go_roundw
          case rel=>exact ⟨k+1,_,_,_,_,by omega,by go_num,aa (by rw[z.out];exact J)⟩
          case measure=>simp[intOf];omega
        . have hi:((p:Int)==0)=false:=by simp;omega
          have a4:=HT.up (p:Int) (ll b8) (by omega)
          have b7:=HT.par (p:Int) (ll b8)
          obtain⟨u1,u2,u3⟩:=n5 a4
          obtain⟨d,hd⟩:∃d:Nat,(aq C.ab (p:Int)).par=(d:Int):=⟨(aq C.ab (p:Int)).par.toNat,by omega⟩
          have eb:d<C.ab.length:=by omega
          have g4:=c7.ins
          have b0:Hid (U (k+1) X=if (aq C.ab (d:Int)).kind=3/\ku C.ab Z.a (C.ab.length+1) (d:Int)=true then (Z.kc (2000+(p:Int))).kc (2000+(d:Int)) else Z.kc (2000+(p:Int))):=aa (by rw[ci.out];unfold vf;rw[ah (by omega),hd];rfl)
          obtain⟨b5,o5,bb,ho,hl,hs,gs,_,f8,el,gb⟩:=HC.st b8
          injection gs with E e2 e3
          injection E with E
          injection E with e4 e5
          subst e4;subst e5
          obtain⟨b6,o6,g0,hr,hm,ht,gu,_,f9,er,gg⟩:=HC.st eb
          injection gu with E f6 f7
          injection E with E
          injection E with e4 e5
          subst e4;subst e5
          have J:=aa (al.after (ap w3 (.cells #[ι (2000+(p:Int))] 3)))
          have fn:=aa (acn w3 (2000+(p:Int)))
          have f1:=aa el
          have f2:=aa er
          have HD:=aa hd
          clear a4 b7 u1 u2 u3 el er gb gg e2 e3 f6 f7 hd
          go_wp2_with (at_builtin;refine fh rfl _ _ 36 rfl w0.heap.size 3 i0 (ι 0) 1 8 underlying36 HI db ds dy rfl (by decide) _ Z.ins.length (bg Z.ins) rfl J.rows.ins _ 1 [ι (2000+(p:Int))] rfl fn (ag _ _) ?c3 ?c4 ?c5 ?_)
          case c3=>unfold maxLen;omega
          case c4=>omega
          case c5=>simpa using J.lt
          intro v5 w5 b3 b1 h5
          obtain⟨A5,bb,rfl⟩:=cd b3
          have am:Hid (ej w0 wM M g ba (.slice (some (δ b o)) C.ab.length bk) (.slice tA C.ay.length b9) C fu (w5.setCell (δ g 6) (.slice A5 (Z.ins.length+1) bb)) e6 ex (.slice A5 (Z.ins.length+1) bb) e9 (Z.kc (2000+(p:Int)))):=aa (J.ub (L:=[2000+(p:Int)]) b1 b3 (h5.imp_right λh=>by rw[h];simp))
          have bt:=aa (ec J.blk J.rows.ins (by decide) b1)
          have y1:w5.cell? (δ g 1)=some (.slice (some (δ b o)) C.ab.length bk):=bt.cell 1
          have y6:w5.cell? (δ g 6)=some gv:=bt.cell 6
          have r6:=bt.frozen 6
          clear O I c2 c3 c4
          obtain⟨O,I,c2,c3,c4⟩:=f1.below am.below f8
          obtain⟨d0,d1,d2,d3,d4⟩:=f2.below am.below f9
          rw[HD.out]at I
          clear b3 b1 h5 x0 x1 x2 x3 x4 x5 x6 x7 x8 x9 z4 z5 z6 z7 z8
          by_cases V:(aq C.ab (d:Int)).kind=3
          . have a0:=aa (ari HC HT (C.ab.length+1) (d:Int) _ (ll eb) (by omega) am)
            have f5:Hid ((Z.kc (2000+(p:Int))).a=Z.a):=aa rfl
            rw[f5.out]at a0
            rw[V]at d0
            cases ax:ku C.ab Z.a (C.ab.length+1) (d:Int) with
            | true =>
             have z:Hid (U (k+1) X=(Z.kc (2000+(p:Int))).kc (2000+(d:Int))):=aa (by rw[b0.out,ao ⟨V,ax⟩])
             rw[ax]at a0
             clear V ax
             go_wp2_with fail
             refine a0.mono ?_
             rintro e w6⟨rfl,a2⟩
             have a9:=aa (am.after a2)
             have a1:=aa (a9.after (ap w6 (.cells #[ι (2000+(d:Int))] 3)))
             have fv:=aa (acn w6 (2000+(d:Int)))
             obtain⟨⟨x0,x1,x2,x3,x4⟩,x5,x6,x7,x8,x9⟩:=a9.cells
             clear a2 y1 y6 r6 O I c2 c3 c4 d0 d1 d2 d3 d4
             go_wp2_with (at_builtin;refine fh rfl _ _ 36 rfl w0.heap.size 3 i0 (ι 0) 1 8 underlying36 HI db ds dy rfl (by decide) _ (Z.kc (2000+(p:Int))).ins.length (bg (Z.kc (2000+(p:Int))).ins) rfl a1.rows.ins _ 1 [ι (2000+(d:Int))] rfl fv (ag _ _) ?c3 ?c4 ?c5 ?_)
             case c3=>unfold maxLen;show (Z.ins ++ [_]).length+1<=_;rw[aw,gq];omega
             case c4=>show ((Z.ins ++ [_]).length+1)*8<=_;rw[aw,gq];omega
             case c5=>simpa using a1.lt
             intro v8 w8 b4 b2 h8
             obtain⟨A8,d5,rfl⟩:=cd b4
             have f0:Hid (ej w0 wM M g ba (.slice (some (δ b o)) C.ab.length bk) (.slice tA C.ay.length b9) C fu (w8.setCell (δ g 6) (.slice A8 ((Z.kc (2000+(p:Int))).ins.length+1) d5)) e6 ex (.slice A8 ((Z.kc (2000+(p:Int))).ins.length+1) d5) e9 ((Z.kc (2000+(p:Int))).kc (2000+(d:Int)))):=aa (a1.ub (L:=[2000+(d:Int)]) b2 b4 (h8.imp_right λh=>by rw[h];simp))
             have cb:=aa (ec a1.blk a1.rows.ins (by decide) b2)
             have y6:w8.cell? (δ g 6)=some (.slice A5 (Z.ins.length+1) bb):=cb.cell 6
             have r6:=cb.frozen 6
             clear b4 b2 h8 x0 x1 x2 x3 x4 x5 x6 x7 x8 x9
             go_wp2
             go_roundw
             case rel=>exact ⟨k+1,_,_,_,_,by omega,by go_num,aa (by rw[z.out];exact f0)⟩
             case measure=>simp[intOf];omega
            | false =>
             have z:Hid (U (k+1) X=Z.kc (2000+(p:Int))):=aa (by rw[b0.out,ah (by rw[ax];simp)])
             rw[ax]at a0
             clear V ax
             go_wp2_with fail
             refine a0.mono ?_
             rintro e w6⟨rfl,a2⟩
             have a9:=aa (am.after a2)
             clear a2 y1 y6 r6 O I c2 c3 c4 d0 d1 d2 d3 d4
             go_wp2
             go_roundw
             case rel=>exact ⟨k+1,_,_,_,_,by omega,by go_num,aa (by rw[z.out];exact a9)⟩
             case measure=>simp[intOf];omega
          . have hc:((aq C.ab (d:Int)).kind != 3)=true:=by simpa using V
            have z:Hid (U (k+1) X=Z.kc (2000+(p:Int))):=aa (by rw[b0.out,ah (λh=>V h.1)])
            generalize (aq C.ab (d:Int)).kind=K at *
            clear V
            go_wp2
            go_roundw
            case rel=>exact ⟨k+1,_,_,_,_,by omega,by go_num,aa (by rw[z.out];exact am)⟩
            case measure=>simp[intOf];omega
      . have he:((aq C.ab (k:Int)).kind != 4)=true:=by simpa using ad
        have z:Hid (U (k+1) X=Z):=aa (by rw[av.out,cc.out,ah ad])
        clear ad
        go_wp2
        go_roundw
        case rel=>exact ⟨k+1,_,_,_,_,by omega,by go_num,aa (by rw[z.out];exact al)⟩
        case measure=>simp[intOf];omega
  . obtain rfl:k=C.ab.length:=(by omega);go_wp2;go_end0;exact .of rfl rfl F
end
def psU(S:List St)(A:Nat->Bool)(s:Int):Nat->List Nat->List Nat
 | 0,H=>H
 | m+1,H=>if (aq S (m:Int)).par=s/\ct (aq S (m:Int)).kind=true then (psU S A s m H).set m (bset (vy S A (m:Int)) S.length) else psU S A s m H
theorem age(S:List St)(A:Nat->Bool)(s:Int):∀(m:Nat)(H:List Nat),(psU S A s m H).length=H.length
 | 0,H=>rfl
 | m+1,H=>by
  rw[psU];split
  . rw[mn,age S A s m H]
  . exact age S A s m H
theorem a3n(S:List St)(A:Nat->Bool)(s:Int)(H:List Nat):∀(m k:Nat),k<H.length->(psU S A s m H).getD k 0=if k<m/\(aq S (k:Int)).par=s/\ct (aq S (k:Int)).kind=true then bset (vy S A (k:Int)) S.length else H.getD k 0
 | 0,k,z=>by rw[psU,ah (by omega)]
 | m+1,k,z=>by
  have E:=a3n S A s H m k z;rw[psU];split
  . rename_i y;by_cases d:k=m
    . subst d;rw[ao ⟨by omega,y⟩,bv,ea (by rw[age];exact z)];rfl
    . rw[bv,gf (j1 d),<-bv,E];have:(k<m+1)=(k<m):=(by apply propext;omega);simp only[this]
  . rename_i y;rw[E];by_cases d:k=m
    . subst d;rw[ah (λh=>by omega),ah (λh=>y h.2)]
    . have:(k<m+1)=(k<m):=(by apply propext;omega);simp only[this]
def psA(S:List St)(Q A:Nat->Bool):Nat->List Nat->List Nat
 | 0,H=>H
 | s+1,H=>if Q s=true then psU S A (s:Int) S.length (psA S Q A s H) else psA S Q A s H
theorem adq(S:List St)(Q A:Nat->Bool):∀(s:Nat)(H:List Nat),(psA S Q A s H).length=H.length
 | 0,H=>rfl
 | s+1,H=>by
  rw[psA];split
  . rw[age,adq S Q A s H]
  . exact adq S Q A s H
theorem a3o(S:List St)(Q A:Nat->Bool)(H:List Nat)(I:H.length=S.length):∀(s k:Nat),k<H.length->(psA S Q A s H).getD k 0=if (0<=(aq S (k:Int)).par/\(aq S (k:Int)).par<(s:Int)/\Q (aq S (k:Int)).par.toNat=true)/\ct (aq S (k:Int)).kind=true then bset (vy S A (k:Int)) S.length else H.getD k 0
 | 0,k,E=>by rw[psA,ah (λh=>by omega)]
 | s+1,k,E=>by
  have F:=a3o S Q A H I s k E;rw[psA];split
  . rename_i z;rw[a3n S A (s:Int) _ S.length k (by rw[adq];exact E),F];by_cases y:(aq S (k:Int)).par=(s:Int)
    . by_cases d:ct (aq S (k:Int)).kind=true
      . rw[ao ⟨by omega,y,d⟩,ao ⟨⟨by omega,by omega,by rw[y];exact z⟩,d⟩]
      . rw[ah (λh=>d h.2.2),ah (λh=>d h.2),ah (λh=>d h.2)]
    . rw[ah (λh=>y h.2.1)];have:((aq S (k:Int)).par<((s+1:Nat):Int))=((aq S (k:Int)).par<(s:Int)):=(by apply propext;omega);simp only[this]
  . rename_i z;rw[F];by_cases y:(aq S (k:Int)).par=(s:Int)
    . rw[ah (λh=>by omega),ah (λh=>z (by have:=h.1.2.2;rw[y]at this;exact this))]
    . have:((aq S (k:Int)).par<((s+1:Nat):Int))=((aq S (k:Int)).par<(s:Int)):=(by apply propext;omega);simp only[this]
theorem a8b{S:List St}(Y:l1 S)(Q A:Nat->Bool){H:List Nat}(W:H.length=S.length):psA S Q A S.length H=q8 S Q A S.length H:=by
 refine List.ext_getElem (by rw[adq,qd]) λk z V=>?_;have I:k<H.length:=by rw[adq]at z;exact z
 have E:=a3o S Q A H W S.length k I;have F:=aor S Q A H S.length k I;rw[bv,ae z]at E;rw[bv,ae V]at F;have O:(psA S Q A S.length H)[k]=_:=E;have U:(q8 S Q A S.length H)[k]=_:=F;rw[O,U];by_cases d:ct (aq S (k:Int)).kind=true
 . have J:=fj.1 (axq Y (k:Int) (ll (by omega)) d).1;by_cases y:Q (aq S (k:Int)).par.toNat=true
   . rw[ao ⟨⟨J.1,J.2,y⟩,d⟩,ao ⟨by omega,d,y⟩]
   . rw[ah (λh=>y h.1.2.2),ah (λh=>y h.2.2)]
 . rw[ah (λh=>d h.2),ah (λh=>d h.2.1)]
theorem a58{S:List St}{A:Nat->Bool}{h:Int}(k:Nat)(d:(aq S h).kind=5):vy S A h k=(decide ((aq S (k:Int)).par=(aq S h).par)&&A k):=by unfold vy;rw[ao d]
theorem a9u{S:List St}{A:Nat->Bool}{h:Int}(k:Nat)(d:¬(aq S h).kind=5):vy S A h k=((A k&&ang S (k:Int))&&jc S (k:Int) (aq S h).par):=by unfold vy;rw[ah d]
section
variable {w0 wM:World} {M:Nat→Prop} {g ba:Nat} {vs vt:Value} {C:Ch} {fu:Int} {w w':World} {vh ve vi vo:Value} {X:Se}
theorem ej.ab2{b cap k n:Nat}{F:Array Value}(h:ej w0 wM M g ba vs vt C fu w (.slice (some (δ b 0)) X.au.length cap) ve vi vo X)(y:cg w b 33 F)(I:w0.heap.size<=b)(Q:k<X.au.length)(V:n<4294967296) :
 ej w0 wM M g ba vs vt C fu (w.setCell (δ b k) (.int .u32 (n:Int))) (.slice (some (δ b 0)) (X.l8 (X.au.set k n)).au.length cap) ve vi vo (X.l8 (X.au.set k n)):=by
 have U:(X.l8 (X.au.set k n)).au.length=X.au.length:=mn ..;have O:g≠b:=λE=>by have d:=h.blk;subst E;unfold cg at d y;rw[y]at d;injection d with d;injection d with _ z;exact absurd z (by decide)
 have J:ba≠b:=λE=>by obtain ⟨W,d,_⟩:=h.act;subst E;unfold cg at d y;rw[y]at d;injection d with d;injection d with _ z;exact absurd z (by decide)
 rw[U];exact⟨h.below.setCell I _,h.ge,(cz w (δ b k) _ g O).trans h.blk,h.act.apart J k _,h.rows.ab2 y Q V,h.stay.put (h.off.au b rfl) k _,h.off⟩
theorem ahp(d:ej w0 wM M g ba vs vt C fu w vh ve vi vo X)(z:C.ab.length<=31) :
 Calls prog 113 #[φ g 0] w λe w'=>e=.returned (.int .u32 ((bset X.a C.ab.length:Nat):Int))/\w=w':=by
 obtain⟨⟨F,I,J,O,Q⟩,U,V,W,Y,Z⟩:=d.cells;have y:=aa (aav ba C.ab.length X.a w d.act z);clear d;go_enter func113,ntmps113;go_wp2_with fail;refine y.mono ?_;rintro e E⟨rfl,rfl⟩;go_wp2;go_ret;exact⟨rfl,rfl⟩
theorem aus(hC:d8 w0 vs vt C)(hk:chk eu C=.ok)(hS:ej w0 wM M g ba vs vt C fu w vh ve vi vo X)(hl:X.au.length=C.ab.length)(s:Nat)(hs:s<C.ab.length)(n:Nat)(hn:n<4294967296)(hA:tf C.ab (cm n)) :
 Calls prog 228 #[φ g 0,ι (s:Int),.int .u32 (n:Int)] w (adk w0 wM M g ba vs vt C fu (X.l8 (psU C.ab (cm n) (s:Int) C.ab.length X.au))):=by
 have gs:=(gr hk).len;have eb:=aa (λW=>ae7 C.ab.length (by omega) W);have d5:=aa (λ(k:Nat)(fa:k<C.ab.length)=>anj hk fa);obtain⟨sA,c3,tA,c4,rfl,rfl⟩:=hC.slices;have HC:=aa hC;have ek:=aa hA;have HU:Hid (∀k,psU C.ab (cm n) (s:Int) (k+1) X.au=if (aq C.ab (k:Int)).par=(s:Int)/\ct (aq C.ab (k:Int)).kind=true then (psU C.ab (cm n) (s:Int) k X.au).set k (bset (vy C.ab (cm n) (k:Int)) C.ab.length) else psU C.ab (cm n) (s:Int) k X.au):=aa λk=>rfl;have b5:Hid (∀k,(psU C.ab (cm n) (s:Int) k X.au).length=C.ab.length):=aa λk=>by rw[age,hl]
 have el:Hid (ej w0 wM M g ba (.slice sA C.ab.length c3) (.slice tA C.ay.length c4) C fu w vh ve vi vo (X.l8 (psU C.ab (cm n) (s:Int) 0 X.au))):=aa hS;have d4:Hid (∀(k:Nat)(hk:k<=31)(W:ω),Calls prog 105 #[.int .u32 (n:Int),ι (k:Int)] W λe w'=>e=.returned (.bool (cm n k))/\W=w'):=aa (λ(k:Nat)(hk:k<=31)(W:ω)=>m0 n k hn (by omega) W);generalize psU C.ab (cm n) (s:Int)=U at *;clear hC hk hS hl hA;go_enter func228,ntmps228;go_wp2_with fail;go_loopw [6] (λi wr=>∃(h:Nat)(c5:Value),h<=C.ab.length/\i=ι (h:Int)/\Hid (ej w0 wM M g ba (.slice sA C.ab.length c3) (.slice tA C.ay.length c4) C fu wr c5 ve vi vo (X.l8 (U h X.au)))) (λi _=>C.ab.length-(intOf i).toNat)
 case atStart=>exact ⟨0,_,ar _,rfl,el⟩
 case round =>
  obtain⟨h,c5,hh,rfl,al⟩:=hrel;obtain⟨Z,rfl⟩:∃Z:ω,Z=wr:=⟨_,rfl⟩;obtain⟨⟨x0,x1,x2,x3,x4⟩,x5,x6,x7,x8,x9⟩:=al.cells;by_cases bs:h<C.ab.length
  . obtain⟨b,o,f4,ui,ue,ux,f0,_,b7,bt,_⟩:=HC.st bs;injection f0 with e1 e2 e3;subst e1;have hu:=HU.out h;have ak:=d5.out h bs;obtain⟨c0,c1,-⟩:=bt.below al.below b7;have b3:Hid (∀W,κ w0 W->W.cell? (δ b (o+h*5))=some (ι (aq C.ab (h:Int)).kind)):=aa λW hb=>(bt.below hb b7).1;have a4:=aa (λk=>a58 (S:=C.ab) (A:=cm n) (h:=(h:Int)) k);have a5:=aa (λk=>a9u (S:=C.ab) (A:=cm n) (h:=(h:Int)) k);have d2:Hid (∃P,(aq C.ab (h:Int)).par=P):=aa ⟨_,rfl⟩;obtain⟨P,hP⟩:=d2.out;rw[hP]at c1 hu a4 a5;have dy:Hid (∃K,(aq C.ab (h:Int)).kind=K):=aa ⟨_,rfl⟩;obtain⟨K,hK⟩:=dy.out;rw[hK]at c0 hu b3 a4 a5 ak;have eg:Hid (bset (vy C.ab (cm n) (h:Int)) C.ab.length<4294967296):=aa (fy _ (by omega));generalize vy C.ab (cm n) (h:Int)=V at *;clear bt e2 e3 hP hK;by_cases am:P=(s:Int)
    . have fv:(P != (s:Int))=false:=(by simp[am]);cases av:ct K with
      | false =>
       rw[ah (by rw[av];simp)]at hu;rw[av]at ak;have fg:decide (K<5)=true:=(by simp at ak;simpa using ak);have ax:=aa hu;clear hu av am ak;go_wp2;go_roundw
       case rel=>exact ⟨h+1,_,by omega,by go_num,aa (by rw[ax.out];exact al)⟩
       case measure=>simp[intOf];omega
      | true =>
       rw[ao ⟨am,av⟩]at hu;rw[av]at ak;have fg:decide (K<5)=false:=(by simp at ak;simpa using ak);have ax:=aa hu;subst am;have fn:=eb.out Z;have c7:=aa (ap Z (.cells (madeCells #[.bool false] C.ab.length) 4));have ev:Hid (ia (Z.alloc (.cells (madeCells #[.bool false] C.ab.length) 4)) Z.heap.size C.ab.length (λj=>decide (j<0)&&V j)):=aa (aft _ (λk hk=>by simp) (cg.new _ _ _));clear hu av ak;go_wp2_with fail;go_loopw [8] (λi wr=>∃x:Nat,x<=C.ab.length/\i=ι (x:Int)/\Hid (κ Z wr)/\Hid (ia wr Z.heap.size C.ab.length (λj=>decide (j<x)&&V j))) (λi _=>C.ab.length-(intOf i).toNat)
       case atStart=>exact ⟨0,ar _,rfl,c7,ev⟩
       case round =>
        clear fn x0 x1 x2 x3 x4 x5 x6 x7 x8 x9 c0 c1;obtain⟨x,hx,rfl,HB,HT⟩:=hrel;obtain⟨wi,rfl⟩:∃wi:ω,wi=wr:=⟨_,rfl⟩;have ad:=aa (al.after HB);obtain⟨⟨x0,x1,x2,x3,x4⟩,x5,x6,x7,x8,x9⟩:=ad.cells;by_cases b1:x<C.ab.length
        . go_wp2_with fail;refine(acs C.vars _ _ C x _ (HC.below ad.below) (by omega) b1).mono ?_;rintro e w1⟨rfl,a9⟩;have a1:=aa (HB.trans (a9.mono HB.size));have ex:=aa (HT.below a9);clear a9 x0 x1 x2 x3 x4 x5 x6 x7 x8 x9;have ad:=aa (al.after a1);obtain⟨⟨x0,x1,x2,x3,x4⟩,x5,x6,x7,x8,x9⟩:=ad.cells;have co:cm n x=true->ct (aq C.ab (x:Int)).kind=false:=λh=>ek x h;have a2:=aa co;generalize ct (aq C.ab (x:Int)).kind=gu at *;clear co;go_wp2_with fail;refine(ze C.vars (s:Int) _ _ C (by unfold dw;omega) _ (x:Int) _ (ai _) (HC.below ad.below)).mono ?_;rintro e w2⟨rfl,bb⟩;have b2:=aa (a1.trans (bb.mono a1.size));have b4:=aa (ex.below bb);clear bb x0 x1 x2 x3 x4 x5 x6 x7 x8 x9;have ad:=aa (al.after b2);obtain⟨⟨x0,x1,x2,x3,x4⟩,x5,x6,x7,x8,x9⟩:=ad.cells;obtain⟨b',o',f5,gx,gv,g0,f1,_,e7,cv,_⟩:=HC.st b1;injection f1 with e1 e2 e3;injection e1 with e1;injection e1 with e1 e4;subst e1;subst e4;obtain⟨d0,d1,-⟩:=cv.below ad.below e7;have c0:=b3.out _ ad.below;have cb:=d4.out x (by omega);have O:=aa cb;have d6:Hid (ang C.ab (x:Int)=(decide ((aq C.ab (x:Int)).kind=1)||decide ((aq C.ab (x:Int)).kind=4))):=aa rfl;have c2:=a4.out x;have b0:=a5.out x;obtain⟨q0,q1⟩:=b4.cell b1;have Q:Hid (∀v,V x=v->ia (w2.setCell (δ Z.heap.size x) (.bool v)) Z.heap.size C.ab.length (λj=>decide (j<x+1)&&V j)/\κ Z (w2.setCell (δ Z.heap.size x) (.bool v))):=aa λv z=>⟨b4.put x v _ (λi hi=>by
           by_cases cc:i=x
           . subst cc;simp[z]
           . rw[ah cc];have:decide (i<x+1)=decide (i<x):=(by simp;omega);rw[this]),b2.setCell (p:=(δ Z.heap.size x)) (ai _) _⟩
          rw[d6.out]at b0;generalize cm n x=Ax at *;generalize jc C.ab (x:Int) (s:Int)=ci at *;generalize (aq C.ab (x:Int)).kind=kx at *;generalize (aq C.ab (x:Int)).par=px at *;have F:=aa c2;have I:=aa b0;clear cv e2 e3 c2 b0 cb;by_cases h1:kx=1
          . subst h1;by_cases E:K=5
            . have z:=F.out E;subst E;cases Ax with
              | false =>
               obtain⟨y,d⟩:=Q.out false (by rw[z];simp);have y:=aa y;have d:=aa d;clear F I;clear z;go_wp2_with fail;refine(O _).mono ?_;rintro e Y⟨rfl,rfl⟩;go_wp2;go_roundw
               case rel=>exact ⟨x+1,by omega,by go_num,d,y⟩
               case measure=>simp[intOf];omega
              | true =>
               obtain rfl:=a2.out rfl;by_cases J:px=(s:Int)
               . have a0:(px==(s:Int))=true:=(by simpa using J);obtain⟨y,d⟩:=Q.out true (by rw[z];simp[J]);have y:=aa y;have d:=aa d;clear F I;clear z J;go_wp2_with fail;refine(O _).mono ?_;rintro e Y⟨rfl,rfl⟩;go_wp2;go_roundw
                 case rel=>exact ⟨x+1,by omega,by go_num,d,y⟩
                 case measure=>simp[intOf];omega
               . have a0:(px==(s:Int))=false:=(by simpa using J);obtain⟨y,d⟩:=Q.out false (by rw[z];simp[J]);have y:=aa y;have d:=aa d;clear F I;clear z J;go_wp2_with fail;refine(O _).mono ?_;rintro e Y⟨rfl,rfl⟩;go_wp2;go_roundw
                 case rel=>exact ⟨x+1,by omega,by go_num,d,y⟩
                 case measure=>simp[intOf];omega
            . have z:=I.out E;have cl:(K==5)=false:=(by simpa using E);cases Ax with
              | false =>
               obtain⟨y,d⟩:=Q.out false (by rw[z];simp);have y:=aa y;have d:=aa d;clear F I;clear z E;go_wp2_with fail;refine(O _).mono ?_;rintro e Y⟨rfl,rfl⟩;go_wp2;go_roundw
               case rel=>exact ⟨x+1,by omega,by go_num,d,y⟩
               case measure=>simp[intOf];omega
              | true =>
               cases ci with
               | false =>
                obtain⟨y,d⟩:=Q.out false (by rw[z];simp)
                have y:=aa y
                have d:=aa d
                clear F I
                clear z E
                go_wp2_with fail
                refine(O _).mono ?_
                rintro e Y⟨rfl,rfl⟩
                go_wp2
                go_roundw
                case rel=>exact ⟨x+1,by omega,by go_num,d,y⟩
                case measure=>simp[intOf];omega
               | true =>
                obtain⟨y,d⟩:=Q.out true (by rw[z];simp)
                have y:=aa y
                have d:=aa d
                clear F I
                clear z E
                go_wp2_with fail
                refine(O _).mono ?_
                rintro e Y⟨rfl,rfl⟩
                go_wp2
                go_roundw
                case rel=>exact ⟨x+1,by omega,by go_num,d,y⟩
                case measure=>simp[intOf];omega
          . have f7:(kx==1)=false:=(by simpa using h1);by_cases h4:kx=4
            . subst h4;by_cases E:K=5
              . have z:=F.out E;subst E;cases Ax with
                | false =>
                 obtain⟨y,d⟩:=Q.out false (by rw[z];simp);have y:=aa y;have d:=aa d;clear F I;clear z;go_wp2_with fail;refine(O _).mono ?_;rintro e Y⟨rfl,rfl⟩;go_wp2;go_roundw
                 case rel=>exact ⟨x+1,by omega,by go_num,d,y⟩
                 case measure=>simp[intOf];omega
                | true =>
                 obtain rfl:=a2.out rfl;by_cases J:px=(s:Int)
                 . have a0:(px==(s:Int))=true:=(by simpa using J);obtain⟨y,d⟩:=Q.out true (by rw[z];simp[J]);have y:=aa y;have d:=aa d;clear F I;clear z J;go_wp2_with fail;refine(O _).mono ?_;rintro e Y⟨rfl,rfl⟩;go_wp2;go_roundw
                   case rel=>exact ⟨x+1,by omega,by go_num,d,y⟩
                   case measure=>simp[intOf];omega
                 . have a0:(px==(s:Int))=false:=(by simpa using J);obtain⟨y,d⟩:=Q.out false (by rw[z];simp[J]);have y:=aa y;have d:=aa d;clear F I;clear z J;go_wp2_with fail;refine(O _).mono ?_;rintro e Y⟨rfl,rfl⟩;go_wp2;go_roundw
                   case rel=>exact ⟨x+1,by omega,by go_num,d,y⟩
                   case measure=>simp[intOf];omega
              . have z:=I.out E;have cl:(K==5)=false:=(by simpa using E);cases Ax with
                | false =>
                 obtain⟨y,d⟩:=Q.out false (by rw[z];simp);have y:=aa y;have d:=aa d;clear F I;clear z E;go_wp2_with fail;refine(O _).mono ?_;rintro e Y⟨rfl,rfl⟩;go_wp2;go_roundw
                 case rel=>exact ⟨x+1,by omega,by go_num,d,y⟩
                 case measure=>simp[intOf];omega
                | true =>
                 cases ci with
                 | false =>
                  obtain⟨y,d⟩:=Q.out false (by rw[z];simp)
                  have y:=aa y
                  have d:=aa d
                  clear F I
                  clear z E
                  go_wp2_with fail
                  refine(O _).mono ?_
                  rintro e Y⟨rfl,rfl⟩
                  go_wp2
                  go_roundw
                  case rel=>exact ⟨x+1,by omega,by go_num,d,y⟩
                  case measure=>simp[intOf];omega
                 | true =>
                  obtain⟨y,d⟩:=Q.out true (by rw[z];simp)
                  have y:=aa y
                  have d:=aa d
                  clear F I
                  clear z E
                  go_wp2_with fail
                  refine(O _).mono ?_
                  rintro e Y⟨rfl,rfl⟩
                  go_wp2
                  go_roundw
                  case rel=>exact ⟨x+1,by omega,by go_num,d,y⟩
                  case measure=>simp[intOf];omega
            . have f8:(kx==4)=false:=(by simpa using h4);by_cases E:K=5
              . have z:=F.out E;subst E;cases Ax with
                | false =>
                 obtain⟨y,d⟩:=Q.out false (by rw[z];simp);have y:=aa y;have d:=aa d;clear F I;clear z;go_wp2_with fail;refine(O _).mono ?_;rintro e Y⟨rfl,rfl⟩;go_wp2;go_roundw
                 case rel=>exact ⟨x+1,by omega,by go_num,d,y⟩
                 case measure=>simp[intOf];omega
                | true =>
                 obtain rfl:=a2.out rfl;by_cases J:px=(s:Int)
                 . have a0:(px==(s:Int))=true:=(by simpa using J);obtain⟨y,d⟩:=Q.out true (by rw[z];simp[J]);have y:=aa y;have d:=aa d;clear F I;clear z J;go_wp2_with fail;refine(O _).mono ?_;rintro e Y⟨rfl,rfl⟩;go_wp2;go_roundw
                   case rel=>exact ⟨x+1,by omega,by go_num,d,y⟩
                   case measure=>simp[intOf];omega
                 . have a0:(px==(s:Int))=false:=(by simpa using J);obtain⟨y,d⟩:=Q.out false (by rw[z];simp[J]);have y:=aa y;have d:=aa d;clear F I;clear z J;go_wp2_with fail;refine(O _).mono ?_;rintro e Y⟨rfl,rfl⟩;go_wp2;go_roundw
                   case rel=>exact ⟨x+1,by omega,by go_num,d,y⟩
                   case measure=>simp[intOf];omega
              . have z:=I.out E;have cl:(K==5)=false:=(by simpa using E);cases Ax with
                | false =>
                 obtain⟨y,d⟩:=Q.out false (by rw[z];simp);have y:=aa y;have d:=aa d;clear F I;clear z E;go_wp2_with fail;refine(O _).mono ?_;rintro e Y⟨rfl,rfl⟩;go_wp2;go_roundw
                 case rel=>exact ⟨x+1,by omega,by go_num,d,y⟩
                 case measure=>simp[intOf];omega
                | true =>
                 cases ci with
                 | false =>
                  obtain⟨y,d⟩:=Q.out false (by rw[z];simp)
                  have y:=aa y
                  have d:=aa d
                  clear F I
                  clear z E
                  go_wp2_with fail
                  refine(O _).mono ?_
                  rintro e Y⟨rfl,rfl⟩
                  go_wp2
                  go_roundw
                  case rel=>exact ⟨x+1,by omega,by go_num,d,y⟩
                  case measure=>simp[intOf];omega
                 | true =>
                  obtain⟨y,d⟩:=Q.out false (by rw[z];simp[h1,h4])
                  have y:=aa y
                  have d:=aa d
                  clear F I
                  clear z E
                  go_wp2_with fail
                  refine(O _).mono ?_
                  rintro e Y⟨rfl,rfl⟩
                  go_wp2
                  go_roundw
                  case rel=>exact ⟨x+1,by omega,by go_num,d,y⟩
                  case measure=>simp[intOf];omega
        . obtain rfl:x=C.ab.length:=(by omega);have e5:Hid (ia wi Z.heap.size C.ab.length V):=aa (by obtain ⟨b6,t1,t2,t3⟩:=HT.out;exact⟨b6,t1,t2,λi hi=>by rw[t3 i hi];simp[hi]⟩);have bk:h<(X.l8 (U h X.au)).au.length:=(by show h<(U h X.au).length;rw[b5.out];exact bs);obtain⟨hB,b9,b6,rfl,gl,ca,b8,e8,e9⟩:=ad.rows.au.place bk;have ds:=aa b8;have d3:=aa ca;have e6:(X.l8 (U h X.au)).au.length=C.ab.length:=b5.out h;have f3:=aa e6;clear e8 e9 b8 ca x0 x1 x2 x3 x5 x6 x7 x8 x9;go_wp2_with fail;refine cr (λW=>W.cell? (δ g 4)=some (.slice (some (δ hB 0)) (X.l8 (U h X.au)).au.length b9)) [8] ?_;try simp only[Act.put,sx]
          have a3:=aa ad.drew;have e0:=aa (e5.below (ag _ _).drew);have db:=aa ds.drew;generalize wi.drew=Y at *;have bf:=a3.cells.1.2.2.2.2;refine af 0 (φ g 0) ?_;refine af 1 (φ g 0) ?_;refine af 2 (φ g 4) ?_;refine a7 3 (.slice (some (δ hB 0)) (X.l8 (U h X.au)).au.length b9) (bf) ?_;refine af 4 (ι (h:Int)) ?_;refine af 5 (.slice (some (δ Z.heap.size 0)) C.ab.length C.ab.length) ?_;try simp only[Act.put,sx]
          refine a8 6 (λK HK=>?_);go_simp;refine(aav Z.heap.size C.ab.length V _ e0 (by omega)).mono ?_;rintro e w4⟨rfl,rfl⟩;go_simp;refine HK _ _ (λ_ hS=>bf) ?_;try simp only[Act.put,sx]
          have gk:(h:Int)<((X.l8 (U h X.au)).au.length:Int):=(by omega);refine af 7 (φ hB h) ?_;try simp only[Act.put,sx]
          obtain⟨f9,gg,f6,f2,-,-,-,gb,gi⟩:=a3.rows.au.place bk;injection f2 with e1 e2 e3;injection e1 with e1;injection e1 with e1 e4;subst e1;have er:=aa (a3.ab2 db d3 bk eg);clear e2 e3 e4 bf;refine a8 8 (λK HK=>?_);go_simp;go_simp;refine HK _ _ (λh=>absurd h (by decide)) ?_;try simp only[Act.put,sx]
          refine ce ?_;go_wp2;go_roundw
          case rel=>exact ⟨h+1,_,by omega,by go_num,aa (by rw[ax.out];exact er)⟩
          case measure=>simp[intOf];omega
    . have fv:(P != (s:Int))=true:=(by simp[am]);rw[ah (λh=>am h.1)]at hu;have ax:=aa hu;clear hu am ak;go_wp2;go_roundw
      case rel=>exact ⟨h+1,_,by omega,by go_num,aa (by rw[ax.out];exact al)⟩
      case measure=>simp[intOf];omega
  . obtain rfl:h=C.ab.length:=(by omega);go_wp2;go_end0;exact .of rfl rfl al
end
end Go.Proofs.YtpekhdfmmkmjaaaGreatDoor
