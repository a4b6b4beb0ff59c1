/- Texts of the proof, put together. -/
import Derived.ArgAppend
import Derived.Test.YtpekhdfmmkmjaaaGreatDoorG15
namespace Go.Proofs.YtpekhdfmmkmjaaaGreatDoor
set_option maxHeartbeats 8000000
set_option maxRecDepth 100000
set_option linter.unusedVariables false
open Go.Proofs.Tryz
theorem a4b{C:Ch}{N:Nat}{l:List Int}(d:∀i∈l,∃j:Nat,i=(j:Int)/\j<C.ay.length):ldD C N l=ow C N l C.ay.length:=by funext k;rw[dh,leftQ_iff d];unfold ldD;rw[iz]
theorem bb2{C:Ch}(E:l1 C.ab){H:List Nat}(z:adj C.ab H){l:List Int}(I:∀i∈l,∃j:Nat,i=(j:Int)/\j<C.ay.length):adD C H l=ahv C H l C.ay.length:=by
 funext k;rw[dh,entQ_iff I];unfold adD;rw[iz];constructor
 . rintro⟨i,d,h⟩;rw[bj,bi]at h;exact⟨i,d,h.1,by rw[akc E z];exact h.2⟩
 . rintro⟨i,d,F,y⟩;rw[akc E z]at y;exact⟨i,d,by rw[bj,bi];exact ⟨F,y⟩⟩
theorem a2n{C:Ch}(z:l1 C.ab){l:List Int}{X:Se}(d:∀i∈l,∃j:Nat,i=(j:Int)/\j<C.ay.length)(y:adj C.ab (o8 C l X).au):aq2 C l X=o8 C l X:=by
 have E:(acU C.ay l l.length (lvS C.ab (ow C (bset X.a C.ab.length) l C.ay.length) X)).au=(o8 C l X).au:=by rw[tj,yw];unfold lvS;rw[qw];rfl
 unfold aq2 o8;simp only;rw[a4b d,adv];refine afd _ _ _ λk F=>?_;rw[tz k F];rw[E]at *;rw[bb2 z y d]
open Go.RowKit
def l5(w:ω)(B:Nat)(e:TypeId)(v:Value)(L:List Int):Prop :=
 (v=.slice none 0 0/\L=[])\/∃g o d y,v=.slice (some (δ g o)) L.length d/\B<=g/\cg w g e y/\L.length<=d/\o+d<=y.size/\(y.toList.drop o).take L.length=bg L
theorem l5.fg{w:ω}{B:Nat}{e:TypeId}{v:Value}{n:Nat}{L:List Int}(h:w.ownsRow B e 1 v n (bg L)):l5 w B e v L:=by
 have J:n=L.length:=by have:=h.1;unfold bg at this;rw[dm]at this;omega
 subst J;rcases h.2 with ⟨d,E⟩ | ⟨g,y,z,d,F,I,O,_,U,Q⟩
 . exact .inl ⟨d,bh E⟩
 . exact .inr ⟨g,0,y,z,d,F,I,O,by omega,by simpa using Q⟩
theorem l5.cell{w:ω}{g o m n cap:Nat}{e:TypeId}{y:Array Value}{xs:List Value}(z:cg w g e y)(h:(y.toList.drop o).take n=xs){j:Nat}{u:Value}(d:xs[j]?=some u):w.cell? (δ g (o+j))=some u:=by
 rw[z.cell];rw[<-h,gn]at d;split at d
 . rw[qr]at d;simpa using d
 . cases d
theorem l5.list{w:ω}{B:Nat}{e:TypeId}{v:Value}{L:List Int}(h:l5 w B e v L):dd w v L:=by
 rcases h with ⟨rfl,rfl⟩ | ⟨g,o,z,I,rfl,J,y,E,O,F⟩
 . exact⟨none,0,rfl,ai _,λi x d=>by cases d⟩
 . refine⟨_,z,rfl,E,λi x d=>⟨g,o,rfl,y.lt,?_⟩⟩;show w.cell? (δ g (o+i*1))=some (ι x);rw[bq];refine l5.cell (m:=0) (cap:=0) y F ?_;unfold bg;rw[gw,d];rfl
theorem l5.slice{w:ω}{B:Nat}{e:TypeId}{v:Value}{L:List Int}(h:l5 w B e v L):∃A cap,v=.slice A L.length cap:=by
 rcases h with ⟨rfl,rfl⟩ | ⟨g,o,cap,d,rfl,_⟩
 . exact⟨none,0,rfl⟩
 . exact⟨_,_,rfl⟩
theorem l5.lt{w:ω}{B:Nat}{e:TypeId}{v:Value}{L:List Int}(h:l5 w B e v L):∀k,v.ownBlock=some k->B<=k/\k<w.heap.size:=by
 intro k d;rcases h with ⟨rfl,rfl⟩ | ⟨g,o,E,F,rfl,y,z,_⟩
 . cases d
 . injection d with d;subst d;exact⟨y,z.lt⟩
theorem l5.base{w:ω}{B B':Nat}{e:TypeId}{v:Value}{L:List Int}(h:l5 w B e v L)(F:B'<=B):l5 w B' e v L:=by
 rcases h with h | ⟨g,o,d,y,z,I,E⟩
 . exact .inl h
 . exact .inr ⟨g,o,d,y,z,a6 F I,E⟩
theorem l5.at0{w:ω}{B:Nat}{e t:TypeId}{g:Nat}{v:Value}{L:List Int}{cs:Array Value}(h:l5 w B e v L)(z:cg w g t cs)(J:e≠t):v.ownBlock≠some g:=by
 intro d;rcases h with ⟨rfl,rfl⟩ | ⟨E,o,O,Q,rfl,V,y,_⟩
 . cases d
 . injection d with d;have d:E=g:=d;subst d;unfold cg at z y;rw[z]at y;injection y with F;injection F with U I;exact J I.symm
theorem l5.kept{w w':ω}{B:Nat}{e:TypeId}{row:Option Nat}{v:Value}{L:List Int}(h:l5 w B e v L)(E:w.grownBy w' row)(I:v.ownBlock=none\/v.ownBlock≠row):l5 w' B e v L:=by
 rcases h with h | ⟨g,o,d,y,rfl,z,F,J⟩
 . exact .inl h
 . refine .inr ⟨g,o,d,y,rfl,z,F.grown E ?_,J⟩;rcases I with h | h
   . cases h
   . exact h
theorem l5.below{w w':ω}{B:Nat}{e:TypeId}{v:Value}{L:List Int}(h:l5 w B e v L)(E:κ w w'):l5 w' B e v L:=by
 rcases h with h | ⟨g,o,y,z,rfl,F,d,I⟩
 . exact .inl h
 . exact .inr ⟨g,o,y,z,rfl,F,d.below E d.lt,I⟩
theorem l5.apart{w:ω}{B:Nat}{e t:TypeId}{g:Nat}{v:Value}{L:List Int}{cs:Array Value}(h:l5 w B e v L)(J:cg w g t cs)(I:e≠t)(j:Nat)(u:Value):l5 (w.setCell (δ g j) u) B e v L:=by
 have Q:=h.at0 J I;rcases h with h | ⟨z,o,d,y,rfl,E,O,U⟩
 . exact .inl h
 . exact .inr ⟨z,o,d,y,rfl,E,O.db (λF=>Q (by rw[<-F];rfl)) j u,U⟩
theorem l5.tail{w:ω}{B:Nat}{e:TypeId}{x:Int}{g o cap:Nat}{L:List Int}(h:l5 w B e (.slice (some (δ g o)) (L.length+1) cap) (x::L)) :
 w.cell? (δ g o)=some (ι x)/\0<cap/\l5 w B e (.slice (some (δ g (if cap=1 then o else o+1))) L.length (cap-1)) L:=by
 rcases h with ⟨F,Y⟩ | ⟨g',o',al,z,F,Z,E,ak,hs,d⟩
 . cases Y
 . injection F with y h2 J;injection y with y;injection y with O Q h6;subst O Q J;rw[bm]at ak d;have I:w.cell? (δ g (o+0))=some (ι x):=l5.cell (m:=0) (cap:=0) E d rfl;refine⟨I,by omega,.inr ⟨g,_,cap-1,z,rfl,Z,E,by omega,?_,?_⟩⟩
   . split<;>omega
   . by_cases y:cap=1
     . obtain rfl:L=[]:=bh (by omega);rfl
     . rw[ah y];have U:bg (x::L)=ι x::bg L:=rfl;rw[U]at d;have V:(z.toList.drop o)=ι x::z.toList.drop (o+1):=(by have ad:o<z.toList.length:=(by rw[qa];omega);rw[bp ad]at d ⊢;rw[List.take_succ_cons]at d;injection d with W am;rw[W]);rw[V,List.take_succ_cons]at d;injection d
section
variable {P:Program}
theorem amm(w:ω)(t ty:TypeId)(B:Nat)(e:TypeId)(i:TypeInfo)(z:Value)(bytes:Nat)(ht:P.underlying t=some (.slice e))(Z:P.info? e=some i)(hz:i.zero=some z)
 (J:i.size=1)(av:i.bytes=bytes)(a1:z.cells.size=1)(v:Value)(L:List Int)(a5:l5 w B e v L)
 (E:Addr)(c:Nat)(x:Int)(a4:w.cell? E=some (ι x))(am:L.length+1<=maxLen)(Y:(L.length+1)*bytes<=140737488355328)(hB:B<=w.heap.size) :
 ∃v' w',(Builtin.append_ #[t,t] ty #[v,.slice (some E) 1 c]).run P w=.ok v' w'/\l5 w' B e v' (L ++ [x])/\w.grownBy w' v.ownBlock/\∀k,v'.ownBlock=some k->v.ownBlock=some k\/w.heap.size<=k:=by
 have ax:bg (L ++ [x])=bg L ++ [ι x]:=by unfold bg;rw[ik];rfl
 have al:∀j u,[Value.int .i64 x][j]?=some u->w.cell? (E.add j)=some u:=λj u d=>by
  cases j with
  | zero =>
   simp only[List.getElem?_cons_zero,Option.some.injEq]at d
   subst d
   have:E.add 0=E:=by unfold Addr.add;simp
   rw[this,a4]
  | succ j=>simp at d
 have ak:(bg L).length=L.length:=by unfold bg;exact dm _
 rcases a5 with ⟨rfl,rfl⟩ | ⟨g,o,Q,U,rfl,hb,V,bb,hs,a0⟩
 . obtain⟨v',w',W,I,F,-⟩:=run_append_own (P:=P) w w.heap.size t ty e i z 1 bytes ht Z hz J av a1 (by decide) (.slice none 0 0) 0 [] (bd w _ e 1) E 1 c [ι x] rfl al (λu O=>by rw[cf]at O;subst O;rfl) am Y (ai _);exact⟨v',w',W,(l5.fg (n:=0+1) I).base hB,F,λk y=>.inr (I.lt k y).1⟩
 . by_cases hr:L.length+1<=Q
   . have a9 := run_append_room_cells (P := P) w t ty e i ht Z g o L.length Q E 1 c [ι x] (by rw[J];rfl) al (λu O => by rw[cf]at O;subst O;rfl) hr (λj d => by have d:j=0:=(by simpa using d);subst d;rw[V.cell,J];rw[jb (by omega)];rfl) (λj d=>V.frozen _);refine⟨_,_,a9,?_,?_,λk y=>.inl y⟩
     . refine .inr ⟨g,o,Q,U.setIfInBounds (o+L.length*i.size) (ι x),by rw[aw];rfl,hb,?_,by rw[aw];exact hr,by rw[Array.size_setIfInBounds];exact hs,?_⟩
       . exact V.ca _ _
       . rw[J,bq,aw,ax,Array.toList_setIfInBounds];have ba:U.toList.length=U.size:=qa;have a3:o+L.length<U.toList.length:=(by clear Y;omega);refine lr λj=>?_;rw[gq,gn];by_cases d:j<L.length+1
         . rw[ao d,qr];by_cases a2:j=L.length
           . subst a2;rw[ea a3,ga (by omega),ak,Nat.sub_self];rfl
           . rw[gf (by omega),kg (by omega),<-a0,gn,ao (by omega),qr]
         . rw[ah d,cn (by rw[aw,ak,gq];omega)]
     . refine⟨rfl,rfl,rfl,by simp[World.setCells],λk _ y=>?_⟩;exact cz w (δ g _) _ k (λhc=>y (by rw[hc];rfl))
   . obtain⟨v',w',W,I,F⟩:=run_append_arg_grows (P:=P) w t ty e i z 1 bytes ht Z hz J av a1 (by decide) (δ g o) L.length Q (bg L) (by rw[ak];omega) (λj u d=>by rw[Addr.add_lit];exact l5.cell (m:=0) (cap:=0) V a0 d) E 1 c [ι x] rfl al (by omega) am Y;rw[<-ax]at I;exact⟨v',w',W,(l5.fg I).base hB,⟨F.os,F.tape,F.output,F.size,λk y _=>F.block k y (by simp)⟩,λk y=>.inr (I.lt k y).1⟩
theorem an6{W:ω}{o:Oper}{a:Act}{K:Act->ω->Prop}{Q:Exit->Act->ω->Prop}(s x:Operand)(t:TypeId)
 (ho:o.op=.call {callee:=.builtin .append,args:=#[s,x],argTypes:=#[t,t]})
 (B:Nat)(e:TypeId)(i:TypeInfo)(z:Value)(bytes:Nat)(ht:P.underlying t=some (.slice e))(Y:P.info? e=some i)(hz:i.zero=some z)
 (am:i.size=1)(U:i.bytes=bytes)(av:z.cells.size=1)(v:Value)(L:List Int)(hs:a.eval s=v)(ak:l5 W B e v L)
 (d:Addr)(c:Nat)(y:Int)(hx:a.eval x=.slice (some d) 1 c)(Z:W.cell? d=some (ι y))(J:L.length+1<=maxLen)(V:(L.length+1)*bytes<=140737488355328)(O:B<=W.heap.size)
 (h:∀v' w',l5 w' B e v' (L ++ [y])->W.grownBy w' v.ownBlock->(∀k,v'.ownBlock=some k->v.ownBlock=some k\/W.heap.size<=k)->K (a.put o.dst v') w'):o.wp P a W K Q:=by
 obtain⟨v',w',al,E,F,I⟩:=amm (P:=P) W t o.type B e i z bytes ht Y hz am U av v L ak d c y Z J V O;unfold Oper.wp execOp;simp only[ho,resolve,invoke,builtin,Sem.run_bind,Sem.run_pure,Result.andThen_ok,List.map_toArray,uk,List.map_nil,hs,hx,al];exact h v' w' E F I
theorem ahe{W:ω}{E:Array Oper}{rest:List Oper}{o:Oper}{a:Act}{Q:Exit->Act->ω->Prop}(hw:Region.wanted o (yielded E a.tmps)=true)(s x:Operand)(t:TypeId)
 (ho:o.op=.call {callee:=.builtin .append,args:=#[s,x],argTypes:=#[t,t]})
 (B:Nat)(e:TypeId)(i:TypeInfo)(z:Value)(bytes:Nat)(ht:P.underlying t=some (.slice e))(hi:P.info? e=some i)(hz:i.zero=some z)
 (am:i.size=1)(Y:i.bytes=bytes)(av:z.cells.size=1)(v:Value)(L:List Int)(hs:a.eval s=v)(al:l5 W B e v L)
 (d:Addr)(c:Nat)(y:Int)(hx:a.eval x=.slice (some d) 1 c)(ak:W.cell? d=some (ι y))(O:L.length+1<=maxLen)(Z:(L.length+1)*bytes<=140737488355328)(U:B<=W.heap.size)
 (h:∀v' w',l5 w' B e v' (L ++ [y])->W.grownBy w' v.ownBlock->(∀k,v'.ownBlock=some k->v.ownBlock=some k\/W.heap.size<=k)->wpList P E Q rest (a.put o.dst v') w'):wpList P E Q (o::rest) a W :=
 BigFrame.wpList_want hw λK V=>an6 s x t ho B e i z bytes ht hi hz am Y av v L hs al d c y hx ak O Z U λv' w' F I J=>V _ _ (h v' w' F I J)
end
open Go.ChangeShapes Go.WideShapes Go.ChangeAt
theorem aef{ρ:Type}{w w':ω}{B B':Nat}{e t:TypeId}{y:Nat}{cells:ρ->List Value}{v u:Value}{L:List ρ}{K:List Int}(h:cu B w e y cells v L)(W:l5 w B' t u K)(U:e≠t)(V:w.grownBy w' u.ownBlock):cu B w' e y cells v L:=by
 rcases h with h | ⟨g,z,E,F,I,d,J,O⟩
 . exact .inl h
 . refine .inr ⟨g,z,E,F,I,d.grown V ?_,J,O⟩;exact λQ=>W.at0 d (j1 U) Q.symm
theorem arq{w w':ω}{B B':Nat}{e t:TypeId}{s n:Nat}{v u:Value}{xs:List Value}{K:List Int}(h:w.ownsRow B e s v n xs)(F:l5 w B' t u K)(y:e≠t)(z:w.grownBy w' u.ownBlock):w'.ownsRow B e s v n xs:=by
 refine h.kept z ?_;rcases F with ⟨rfl,_⟩ | ⟨g,o,I,J,rfl,O,E,_⟩
 . cases Q:v.ownBlock with
   | none=>exact .inl rfl
   | some k=>exact .inr (by simp[Value.ownBlock])
 . exact .inr (λd=>m5 h E y d)
structure s9 (B:Nat) (w:World) (vh ve vi vo:Value) (X:Se):Prop where
 au:lp B w vh X.au
 env:ez B w ve X.env
 ins:l5 w B 3 vi X.ins
 out:iw B w vo X.out
section
variable {B:Nat} {w w':World} {vh ve vi vo:Value} {X:Se}
theorem s9.of(h:pu B w vh ve vi vo X):s9 B w vh ve vi vo X:=⟨h.au,h.env,l5.fg h.ins,h.out⟩
theorem s9.below(h:s9 B w vh ve vi vo X)(d:κ w w'):s9 B w' vh ve vi vo X:=⟨h.au.below d,h.env.below d,h.ins.below d,h.out.below d⟩
theorem s9.apart{g:Nat}{t:TypeId}{cs:Array Value}(h:s9 B w vh ve vi vo X)(d:cg w g t cs)(y:33≠t)(z:2≠t)(E:3≠t)(F:73≠t)(j:Nat)(u:Value):s9 B (w.setCell (δ g j) u) vh ve vi vo X :=
 ⟨⟨cu.apart h.au.1 d y j u,h.au.2⟩,cu.apart h.env d z j u,h.ins.apart d E j u,du h.out d F j u⟩
theorem s9.ub{y:Value}{L:List Int}(h:s9 B w vh ve vi vo X)(d:w.grownBy w' vi.ownBlock)(z:l5 w' B 3 y L):s9 B w' vh ve y vo ⟨X.a,X.au,X.env,L,X.st,X.out⟩ :=
 ⟨⟨aef h.au.1 h.ins (by decide) d,h.au.2⟩,aef h.env h.ins (by decide) d,z,arq h.out h.ins (by decide) d⟩
theorem s9.ab3{vo':Value}{L:List Ou}(h:s9 B w vh ve vi vo X)(z:w.grownBy w' vo.ownBlock)(F:iw B w' vo' L):s9 B w' vh ve vi vo' ⟨X.a,X.au,X.env,X.ins,X.st,L⟩ :=
 ⟨⟨qu h.au.1 h.out (by decide) z,h.au.2⟩,qu h.env h.out (by decide) z,h.ins.kept z (by
  cases d:vi.ownBlock with
  | none=>exact .inl rfl
  | some k =>
   refine .inr λy=>?_
   have y:vo.ownBlock=some k:=by rw[<-y]
   rcases h.ins with ⟨rfl,_⟩ | ⟨g,o,I,J,rfl,O,E,_⟩
   . cases d
   . injection d with d
     subst d
     exact m5 h.out E (by decide) y),F⟩
end
abbrev au7(t:Nat)(C:Ch)(vh ve vi vo:Value)(X:Se)(f:Nat):Array Value :=
 #[φ t 0,.int .u32 ((bset X.a C.ab.length:Nat):Int),vh,ve,vi,ι X.st,ι (f:Int),vo]
structure i8 (w0:World) (t g:Nat) (C:Ch) (w:World) (vh ve vi vo:Value) (X:Se) (f:Nat):Prop where
 below:κ w0 w
 ge:w0.heap.size<=g
 blk:cg w g 68 (au7 t C vh ve vi vo X f)
 rows:s9 w0.heap.size w vh ve vi vo X
def bct(w0:ω)(t g:Nat)(C:Ch)(Y:Se)(f:Nat)(e:Ending)(w':ω):Prop:=e=.returned (.tuple #[])/\∃vh ve vi vo,i8 w0 t g C w' vh ve vi vo Y f
section
variable {w0:World} {t g:Nat} {C:Ch} {w w':World} {vh ve vi vo:Value} {X:Se} {f:Nat}
theorem i8.lt(h:i8 w0 t g C w vh ve vi vo X f):w0.heap.size<=w.heap.size:=h.below.size
theorem i8.after(h:i8 w0 t g C w vh ve vi vo X f)(d:κ w w'):i8 w0 t g C w' vh ve vi vo X f :=
 ⟨h.below.trans (d.mono h.lt),h.ge,h.blk.below d h.blk.lt,h.rows.below d⟩
theorem i8.drew(h:i8 w0 t g C w vh ve vi vo X f):i8 w0 t g C w.drew vh ve vi vo X f:=h.after (ag _ _).drew
theorem i8.cells(h:i8 w0 t g C w vh ve vi vo X f) :
 w.cell? (δ g 0)=some (φ t 0)/\w.cell? (δ g 1)=some (.int .u32 ((bset X.a C.ab.length:Nat):Int))/\w.cell? (δ g 2)=some vh/\w.cell? (δ g 3)=some ve/\w.cell? (δ g 4)=some vi/\
 w.cell? (δ g 5)=some (ι X.st)/\w.cell? (δ g 6)=some (ι (f:Int))/\w.cell? (δ g 7)=some vo :=
 ⟨h.blk.cell 0,h.blk.cell 1,h.blk.cell 2,h.blk.cell 3,h.blk.cell 4,h.blk.cell 5,h.blk.cell 6,h.blk.cell 7⟩
theorem i8.ww(h:i8 w0 t g C w vh ve vi vo X f) :
 w.frozen? (δ g 1)=false/\w.frozen? (δ g 2)=false/\w.frozen? (δ g 3)=false/\w.frozen? (δ g 4)=false/\w.frozen? (δ g 5)=false/\w.frozen? (δ g 6)=false/\w.frozen? (δ g 7)=false :=
 ⟨h.blk.frozen 1,h.blk.frozen 2,h.blk.frozen 3,h.blk.frozen 4,h.blk.frozen 5,h.blk.frozen 6,h.blk.frozen 7⟩
theorem i8.set(h:i8 w0 t g C w vh ve vi vo X f){vh' y z vo':Value}{d:Se}{E:Nat}(j:Nat)(u:Value)(F:(au7 t C vh ve vi vo X f).setIfInBounds j u=au7 t C vh' y z vo' d E)(I:s9 w0.heap.size w vh' y z vo' d):i8 w0 t g C (w.setCell (δ g j) u) vh' y z vo' d E :=
 ⟨h.below.setCell h.ge u,h.ge,by rw[<-F];exact h.blk.ca j u,I.apart h.blk (by decide) (by decide) (by decide) (by decide) j u⟩
theorem i8.lq(h:i8 w0 t g C w vh ve vi vo X f)(n:Int):i8 w0 t g C (w.setCell (δ g 5) (ι n)) vh ve vi vo (X.lq n) f :=
 h.set 5 _ rfl ⟨h.rows.au,h.rows.env,h.rows.ins,h.rows.out⟩
theorem i8.a94(h:i8 w0 t g C w vh ve vi vo X f)(n:Nat):i8 w0 t g C (w.setCell (δ g 6) (ι (n:Int))) vh ve vi vo X n :=
 h.set 6 _ rfl h.rows
theorem i8.bb9{d:Value}{L:List Int}(h:i8 w0 t g C w vh ve vi vo X f)(y:l5 w w0.heap.size 3 d L):i8 w0 t g C (w.setCell (δ g 4) d) vh ve d vo ⟨X.a,X.au,X.env,L,X.st,X.out⟩ f :=
 h.set 4 _ rfl ⟨h.rows.au,h.rows.env,y,h.rows.out⟩
theorem i8.ub{d:Value}{L:List Int}(h:i8 w0 t g C w vh ve vi vo X f)(y:w.grownBy w' vi.ownBlock)(J:l5 w' w0.heap.size 3 d L):i8 w0 t g C (w'.setCell (δ g 4) d) vh ve d vo ⟨X.a,X.au,X.env,L,X.st,X.out⟩ f:=by have z:cg w' g 68 (au7 t C vh ve vi vo X f):=h.blk.grown y (λE=>h.rows.ins.at0 h.blk (by decide) E.symm);have I:=h.rows.ub y J;exact⟨(h.below.grown y h.lt (λk F=>(h.rows.ins.lt k F).1)).setCell h.ge _,h.ge,z.ca 4 d,I.apart z (by decide) (by decide) (by decide) (by decide) 4 d⟩
theorem i8.bah{z:Value}{L:List Int}(h:i8 w0 t g C w vh ve vi vo X f)(y:w.grownBy w' vi.ownBlock)(E:l5 w' w0.heap.size 3 z L):cg w' g 68 (au7 t C vh ve vi vo X f):=h.blk.grown y (λd=>h.rows.ins.at0 h.blk (by decide) d.symm)
theorem i8.ab3{vo':Value}{L:List Ou}(h:i8 w0 t g C w vh ve vi vo X f)(d:w.grownBy w' vo.ownBlock)(I:iw w0.heap.size w' vo' L):i8 w0 t g C (w'.setCell (δ g 7) vo') vh ve vi vo' ⟨X.a,X.au,X.env,X.ins,X.st,L⟩ f:=by have y:cg w' g 68 (au7 t C vh ve vi vo X f):=h.blk.grown d (λz=>m5 h.rows.out h.blk (by decide) z.symm);have F:=h.rows.ab3 d I;exact⟨(h.below.grown d h.lt (λk E=>(h.rows.out.lt k E).1)).setCell h.ge _,h.ge,y.ca 7 vo',F.apart y (by decide) (by decide) (by decide) (by decide) 7 vo'⟩
theorem i8.bag{vo':Value}{L:List Ou}(h:i8 w0 t g C w vh ve vi vo X f)(y:w.grownBy w' vo.ownBlock):cg w' g 68 (au7 t C vh ve vi vo X f):=h.blk.grown y (λd=>m5 h.rows.out h.blk (by decide) d.symm)
theorem ax7{b y:Nat}{t z:TypeId}{cs E:Array Value}(h:cg w b t cs)(d:cg w y z E)(O:t≠z):b≠y:=λJ=>by
 subst J
 unfold cg at h d
 rw[h]at d
 injection d with F
 injection F with Q I
 exact O I
theorem i8.ab1{b:Nat}{ty:TypeId}{cs:Array Value}(h:i8 w0 t g C w vh ve vi vo X f)(d:cg w b ty cs)(J:w0.heap.size<=b)(y:ty≠68)(z:33≠ty)(E:2≠ty)(F:3≠ty)(I:73≠ty)(j:Nat)(u:Value):i8 w0 t g C (w.setCell (δ b j) u) vh ve vi vo X f :=
 ⟨h.below.setCell J u,h.ge,h.blk.db (j1 (ax7 d h.blk y)) j u,h.rows.apart d z E F I j u⟩
abbrev abb(w:ω)(b k:Nat)(d y z E F:Value):ω:=((((w.setCell (δ b k) d).setCell (δ b (k+1)) y).setCell (δ b (k+2)) z).setCell (δ b (k+3)) E).setCell (δ b (k+4)) F
theorem i8.vz{b:Nat}{cs:Array Value}(h:i8 w0 t g C w vh ve vi vo X f)(J:cg w b 38 cs)(d:w0.heap.size<=b)(y z E F I:Value):i8 w0 t g C (abb w b 0 y z E F I) vh ve vi vo X f:=by have U:=h.ab1 J d (by decide) (by decide) (by decide) (by decide) (by decide) 0 y;have O:=J.ca 0 y;have V:=U.ab1 O d (by decide) (by decide) (by decide) (by decide) (by decide) 1 z;have Q:=O.ca 1 z;have W:=V.ab1 Q d (by decide) (by decide) (by decide) (by decide) (by decide) 2 E;have k3:=Q.ca 2 E;have Y:=W.ab1 k3 d (by decide) (by decide) (by decide) (by decide) (by decide) 3 F;exact Y.ab1 (k3.ca 3 F) d (by decide) (by decide) (by decide) (by decide) (by decide) 4 I
theorem pu.vz{B b k:Nat}{ty:TypeId}{cs:Array Value}(h:pu B w vh ve vi vo X)(U:cg w b ty cs)(d:33≠ty)(y:2≠ty)(z:3≠ty)(E:73≠ty)(F I J O Q:Value):pu B (abb w b k F I J O Q) vh ve vi vo X:=by have Y:=h.apart U d y z E k F;have V:=U.ca k F;have Z:=Y.apart V d y z E (k+1) I;have W:=V.ca (k+1) I;have s3:=Z.apart W d y z E (k+2) J;have k3:=W.ca (k+2) J;have s4:=s3.apart k3 d y z E (k+3) O;exact s4.apart (k3.ca (k+3) O) d y z E (k+4) Q
theorem abf{B b k:Nat}{e ty:TypeId}{s n:Nat}{v:Value}{xs:List Value}{cs:Array Value}(h:w.ownsRow B e s v n xs)(J:cg w b ty cs)(d:e≠ty)(y z E F I:Value):(abb w b k y z E F I).ownsRow B e s v n xs:=by have U:=du h J d k y;have O:=J.ca k y;have V:=du U O d (k+1) z;have Q:=O.ca (k+1) z;have W:=du V Q d (k+2) E;have k3:=Q.ca (k+2) E;have Y:=du W k3 d (k+3) F;exact du Y (k3.ca (k+3) F) d (k+4) I
theorem i8.bae{vh' d y vo':Value}{Y:Se}(h:i8 w0 t g C w vh ve vi vo X f)(F:pu w0.heap.size w vh' d y vo' Y) :
 i8 w0 t g C (abb w g 1 (.int .u32 ((bset Y.a C.ab.length:Nat):Int)) vh' d y (ι Y.st)) vh' d y vo ⟨Y.a,Y.au,Y.env,Y.ins,Y.st,X.out⟩ f:=by
 have z:=F.vz (k:=1) h.blk (by decide) (by decide) (by decide) (by decide) (.int .u32 ((bset Y.a C.ab.length:Nat):Int)) vh' d y (ι Y.st);have E:=abf (k:=1) h.rows.out h.blk (by decide) (.int .u32 ((bset Y.a C.ab.length:Nat):Int)) vh' d y (ι Y.st);exact⟨((((h.below.setCell (p:=⟨g,1,none⟩) h.ge _).setCell (p:=⟨g,2,none⟩) h.ge _).setCell (p:=⟨g,3,none⟩) h.ge _).setCell (p:=⟨g,4,none⟩) h.ge _).setCell (p:=⟨g,5,none⟩) h.ge _,h.ge,
  ((((h.blk.ca 1 _).ca 2 _).ca 3 _).ca 4 _).ca 5 _,⟨z.au,z.env,l5.fg z.ins,E⟩⟩
theorem ac4(h:i8 w0 t g C w vh ve vi vo X f):Calls prog 39 #[φ g 0] w λe w'=>e=.returned (.bool (decide (X.st=1)))/\κ w w':=by
 obtain⟨E,F,I,J,O,Q,U,V⟩:=h.cells;clear h;generalize X.st=s at *;by_cases d:s=1
 . subst d;go_enter func39,ntmps39;go_wp2;go_ret;exact⟨rfl,ag _ _⟩
 . have z:((s:Int)==1)=false:=fw d;have y:decide (s=1)=false:=df d;rw[y];clear y;go_enter func39,ntmps39;go_wp2;go_ret;exact⟨rfl,ag _ _⟩
theorem aqs{x:Int}{L:List Int}(h:i8 w0 t g C w vh ve vi vo X f)(F:X.ins=x::L) :
 Calls prog 53 #[φ g 0] w λe w'=>e=.returned (ι x)/\∃ak,i8 w0 t g C w' vh ve ak vo X.kp f:=by
 have Q:X.kp=⟨X.a,X.au,X.env,L,X.st,X.out⟩:=by unfold Se.kp;rw[F];rfl
 have z:=h.rows.ins;rw[F]at z;rcases z with ⟨_,h0⟩ | ⟨I,o,y,ad,hv,O,U,V,W,Y⟩
 . cases h0
 have z:l5 w w0.heap.size 3 (.slice (some (δ I o)) (L.length+1) y) (x::L):=.inr ⟨I,o,y,ad,rfl,O,U,V,W,Y⟩;obtain⟨c0,al,Z⟩:=z.tail;rw[bm]at hv;subst hv;rw[Q];have E:=aa h;obtain⟨x0,x1,x2,x3,x4,x5,x6,x7⟩:=h.cells;obtain⟨f1,f2,f3,f4,f5,f6,f7⟩:=h.ww;have d:=aa Z;clear h F Q z Z U V W Y O x0 x1 x2 x3 x5 x6 x7 f1 f2 f3 f5 f6 f7;obtain⟨q,hq⟩:∃q,L.length=q:=⟨_,rfl⟩;rw[hq]at E d x4;by_cases J:y=1
 . subst J;rw[ao rfl]at d;go_enter func53,ntmps53;go_wp2;go_ret;exact⟨rfl,_,E.bb9 d⟩
 . rw[ah J]at d;obtain⟨c,rfl⟩:∃c,y=c+2:=⟨y-2,by omega⟩;go_enter func53,ntmps53;go_wp2;go_ret;exact⟨rfl,_,E.bb9 d⟩
end
theorem a49:lh 255:=pt func255 (by kernel_rfl) rfl
section
variable {w0:World} {M:Nat→Option Obj} {t g:Nat} {vs vt:Value} {C:Ch} {w:World} {vh ve vi vo:Value} {X:Se}
theorem aru(y:d8 w0 vs vt C)(z:fz w0 M t g vs vt C w vh ve vi vo X)(c:Nat)(cs:Array Value)(ty:TypeId)(E:cg w c ty cs)(d:cs[0]?=some (φ g 0))(k:Nat)(J:k<C.ay.length) :
 Calls prog 255 #[ι (k:Int),φ c 0] w λe w'=>e=.returned (.bool false)/\w=w':=by
 obtain⟨O,Q,U,V,rfl,rfl⟩:=y.slices;obtain⟨⟨W,Y,Z,x3,x4⟩,-⟩:=z.cells;have y0:w.cell? (δ c 0)=some (φ g 0):=(E.cell 0).trans d;have F:decide ((k:Int)<0)=false:=by simp
 have I:decide ((C.ay.length:Int)<=(k:Int))=false:=df (by omega);clear y z E d;go_enter func255,ntmps255;go_wp2;go_ret;exact⟨az (df (by omega)),rfl⟩
theorem a0f(F:Nat)(y:Array Value)(v:Value)(B:Nat)(l:List Int)(w:ω)(hE:lh F)(I:∀(W:ω)(x:Int),x∈l->κ w W->Calls prog F (#[ι x]++y) W λe w'=>e=.returned (.bool false)/\W=w')(d:w.ownsRow B 3 1 v l.length (bg l))(hl:l.length<=1000) :
 Calls prog 275 #[v,.func (.func F) #[] y] w λe w'=>e=.returned (ι (-1))/\w=w':=by
 have U:=aa (λx hx=>I w x hx (ag _ _));have Q:=aa (dc d);obtain⟨lA,ak,rfl⟩:=cd d;unfold lh at hE;clear I d;go_enter func275,ntmps275;go_wp2_with fail;go_loopw [8] (λi wr=>∃k:Nat,k<=l.length/\i=ι (k:Int)/\wr=w) (λi _=>l.length-(intOf i).toNat)
 case atStart=>exact ⟨0,ar _,rfl,rfl⟩
 case round =>
  obtain⟨k,hk,rfl,rfl⟩:=hrel;by_cases E:k<l.length
  . obtain⟨_,_,q1,_,J⟩:=Q.out;injection q1 with V Y Z;subst V;obtain⟨b,o,rfl,ad,z⟩:=J k _ (ae E);have c0:wr.cell? (δ b (o+k))=some (ι l[k]):=(by have:=z;unfold d7 at this;rwa [bq]at this);have O:=aa (U l[k] (bw E));generalize l[k]=x at *;clear z J Y Z;go_wp2_with fail;refine O.mono ?_;rintro e w1⟨rfl,rfl⟩;go_wp2;go_roundw
    case rel=>exact ⟨k+1,by omega,by go_num,trivial⟩
    case measure=>simp[intOf];omega
  . obtain rfl:k=l.length:=(by omega);go_wp2;go_ret;exact⟨rfl,rfl⟩
theorem a0v(F:Nat)(d:Array Value)(v:Value)(B:Nat)(l:List Int)(w:ω)(z:lh F)(E:∀(W:ω)(x:Int),x∈l->κ w W->Calls prog F (#[ι x]++d) W λe w'=>e=.returned (.bool false)/\W=w')(y:w.ownsRow B 3 1 v l.length (bg l))(J:l.length<=1000) :
 Calls prog 256 #[v,.func (.func F) #[] d] w λe w'=>e=.returned v/\w=w':=by
 have I:=aa (a0f F d v B l w z E y J);obtain⟨O,Q,rfl⟩:=cd y;clear E y z;go_enter func256,ntmps256;go_wp2_with fail;refine I.mono ?_;rintro e w1⟨rfl,rfl⟩;go_wp2;go_ret;exact⟨rfl,rfl⟩
theorem ahj(O:Fx w0 t vs vt C)(Q:fz w0 M t g vs vt C w vh ve vi vo X)(J:Value)(l:List Int)(F:dd w J l)(al:l.length<=1000)(U:∀i∈l,s7 C.ay i=true) :
 Calls prog 208 #[φ g 0,J] w λe w'=>∃v',e=.returned v'/\κ w w'/\w'.ownsRow w.heap.size 3 1 v' l.length (bg l):=by
 have Y:=aa (λ(W:ω)(h:κ w W)=>alp J l W (F.below h) (by omega));have E:=ap w (.cells #[φ g 0] 105);have d:=aa E;have am:=aa (cg.new w 105 #[φ g 0]);have ad:=aa (λ(W:ω)(h:κ (w.alloc (.cells #[φ g 0] 105)) W)(x:Int)(I:x∈l)=>(by obtain ⟨k,rfl,hk⟩:=yo (U x I);exact aru O.has ((Q.after E).after h) w.heap.size _ _ ((cg.new w 105 #[φ g 0]).below h (by simp)) rfl k hk:Calls prog 255 (#[ι x]++#[φ w.heap.size 0]) W λe w'=>e=.returned (.bool false)/\W=w'));obtain⟨lA,ax,rfl,-⟩:=br.slice F;clear O Q F U E;go_enter func208,ntmps208;go_wp2_with fail;refine(Y _ d).mono ?_;rintro e w2⟨y,v2,rfl,z⟩;obtain⟨A2,av,rfl⟩:=cd z;have V:=aa (d.trans (y.mono d.size));have ak:=aa (fp z d.size);have Z:=aa (a0v 255 #[φ w.heap.size 0] _ _ l w2 a49 (λW x I h=>ad W (y.trans (h.mono y.size)) x I) z al);clear y z;go_wp2_with fail;refine Z.mono ?_;rintro e w3⟨rfl,rfl⟩;go_wp2;go_ret;exact⟨_,rfl,V,ak⟩
end
theorem az1{w d:ω}{B:Nat}{e:TypeId}{s n:Nat}{v:Value}{xs:List Value}(h:w.ownsRow B e s v n xs)(O:∀b,v.ownBlock=some b->d.heap[b]?=w.heap[b]?):d.ownsRow B e s v n xs:=by
 refine⟨h.1,?_⟩;rcases h.2 with E | ⟨g,y,z,rfl,F,I,J⟩
 . exact .inl E
 . exact .inr ⟨g,y,z,rfl,F,(O g rfl).trans I,J⟩
theorem cu.a60{ρ:Type}{B:Nat}{w:ω}{e n:Nat}{cells:ρ->List Value}{v:Value}{L:List ρ}(h:cu B w e n cells v L){k:Nat}(d:v.ownBlock=some k):k<w.heap.size:=by
 rcases h with ⟨rfl,_⟩ | ⟨F,z,E,rfl,_,y,_⟩
 . cases d
 . injection d with d;subst d;exact y.lt
section
variable {w0:World} {t g:Nat} {vs vt:Value} {C:Ch} {w w' w1:World} {vh ve vi vo:Value} {X:Se}
theorem fz.a6w(h:fz w0 (λ_=>none) t g vs vt C w vh ve vi vo X)(F:κ w w'){e:TypeId}{s n:Nat}{v:Value}{xs:List Value}(I:w'.ownsRow w.heap.size e s v n xs) :
 fz w0 (λk=>if v.ownBlock=some k then w'.heap[k]? else none) t g vs vt C w' vh ve vi vo X:=by
 have y:=h.after F;refine⟨y.below,y.ge,y.blk,y.rows,λk o z=>?_⟩;by_cases E:v.ownBlock=some k
 . rw[ao E]at z;have O:=(I.lt k E).1;have J:=h.blk.lt;refine⟨z,by omega,λd=>?_,λd=>?_,λd=>?_⟩
   . have:=cu.a60 h.rows.au.1 d;omega
   . have:=(h.rows.ins.lt k d).2;omega
   . have:=(h.rows.out.lt k d).2;omega
 . rw[ah E]at z;cases z
theorem fz.a6v{e:TypeId}{B s n:Nat}{v:Value}{xs:List Value}(h:fz w0 (λk=>if v.ownBlock=some k then w1.heap[k]? else none) t g vs vt C w vh ve vi vo X)(y:w1.ownsRow B e s v n xs):w.ownsRow B e s v n xs:=by refine az1 y λb d=>?_;have E:=(y.lt b d).2;have z:w1.heap[b]?=some w1.heap[b]:=jb E;rw[z];exact(h.ahb b _ (by rw[ao d];exact z)).1
end
theorem Fx.a1e{w0:ω}{t:Nat}{vs vt:Value}{C:Ch}(h:Fx w0 t vs vt C)(s:Int):(es C.ay s).acts.length<=40/\∀a∈(es C.ay s).acts,a.expr.size<=1000000:=by
 unfold es;rcases et s.toNat C.ay.length with d | d
 . have:=(fx h.few).2.2.2 s.toNat d;unfold qp at this;simp only[bj,bi]at this;exact ny this.1.1
 . rw[bv,cn d];exact⟨by decide,λa y=>by cases y⟩
def a6e(C:Ch)(Y:Se)(w:ω)(e:Ending)(w':ω):Prop:=κ w w'/\∃v vo,e=.returned (.tuple #[v,vo])/\an2 w.heap.size w' C.ab.length v vo Y
theorem az6(t:Nat)(C:Ch)(w:ω)(hL:ju w)(hT:fs w t C)(hk:chk eu C=.ok)(cv:fewB C=true)(a:Nat->Bool)(vh ve vi vl:Value)(H:List Nat)(env E l:List Int)(st:Int)
 (hH:km w vh H)(hf:H.length<=900)(hE:fe w ve env)(co:env.length<=1000)(cl:∀x∈env,uj x)(hI:dd w vi E)(gb:E.length<=100000)(hv:dd w vl l)(gv:l.length<=1000)(db:∀i∈l,s7 C.ay i=true) :
 Calls prog 151 #[φ t 0,.agg #[.int .u32 ((bset a C.ab.length:Nat):Int),vh,ve,vi,ι st],vl] w (a6e C (o8 C l ⟨a,pm C.ab.length H,env,E,st,[]⟩) w):=by
 have dy:=gr hk;have hh:=dy.len;obtain⟨hA,bs,rfl,gl⟩:=br.slice hH;obtain⟨eA,bk,rfl,gk⟩:=br.slice (iq hE);obtain⟨iA,b1,rfl,gs⟩:=br.slice hI;obtain⟨lA,hj,rfl,gu⟩:=br.slice hv;have I:κ w ((w.alloc (.cells #[.int .u32 ((bset a C.ab.length:Nat):Int),.slice hA H.length bs,.slice eA env.length bk,.slice iA E.length b1,ι st] 38)).alloc (.cells #[.int .u32 0,.slice none 0 0,.slice none 0 0,.slice none 0 0,ι 0] 38)):=(ap w _).alloc (by simp) _;have a5:=aa I;have f3:=aa ((cg.new w 38 #[.int .u32 ((bset a C.ab.length:Nat):Int),.slice hA H.length bs,.slice eA env.length bk,.slice iA E.length b1,ι st]).alloc (.cells #[.int .u32 0,.slice none 0 0,.slice none 0 0,.slice none 0 0,ι 0] 38));have ci:=aa (cg.dy (w.alloc (.cells #[.int .u32 ((bset a C.ab.length:Nat):Int),.slice hA H.length bs,.slice eA env.length bk,.slice iA E.length b1,ι st] 38)) 38 #[.int .u32 0,.slice none 0 0,.slice none 0 0,.slice none 0 0,ι 0] (w.heap.size+1) (by simp));have ca:=aa (af3 t C _ (hL.after I) (hT.below I) hk cv a _ _ _ H env E st (hH.below I) (by omega) (hE.below I) co (hI.below I) gb);have e7:=aa (λ(W:ω)(h:κ w W)=>hv.below h);have hi:=λW=>agj t W;have HX:Hid (ug 0 ⟨a,pm C.ab.length H,env,E,st,[]⟩):=aa ⟨co,cl,by show ([]:List Ou).length<=_;simp,by show E.length<=_;omega⟩;have b4:=aa db;have b8:Hid (C.ab.length<=(pm C.ab.length H).length/\(pm C.ab.length H).length<=1000):=aa (by rw[arp];omega);obtain⟨d,a3⟩:∃d:Se,(⟨a,pm C.ab.length H,env,E,st,[]⟩:Se)=d:=⟨_,rfl⟩;have cc:Hid (d.au=pm C.ab.length H):=aa (by rw[<-a3]);rw[a3]at ca HX ⊢;have hb:Hid (d.a=a):=aa (by rw[<-a3]);obtain⟨⟨x0,x1,x2,x3,x4⟩,-⟩:=d9 f3;clear hL hT hk cv hH hE hI hv db I gl gk gs gu dy cl a3;go_enter func151,ntmps151;go_wp2_with fail;refine ca.mono ?_;rintro e w2⟨w0,g,vs,vt,hq,ho,hs,rfl,a4,hF,a2⟩;have f2:Hid (w.heap.size<=w0.heap.size):=aa (a6 a5.size a4.size);have z:=aa hF;have a1:=aa (a5.trans (a4.mono a5.size));have ba:=aa (ci.below a4 ci.lt);have e9:=aa a2;have c1:=a1.trans (a2.below.mono a1.size);have fu:=aa (ahj hF a2 _ l (e7 w2 c1) gv b4);clear a4 hF a2 c1 x0 x1 x2 x3 x4;go_wp2_with fail;refine fu.mono ?_;rintro e w3⟨v3,rfl,c2,a0⟩;have b9:=aa (e9.a6w c2 a0);obtain⟨A3,f8,rfl⟩:=cd a0;have e8:=aa a0;have e6:=aa (a38 z b9 _ l a0 (by omega));clear c2 a0;go_wp2_with fail;refine e6.mono ?_;rintro e w4⟨rfl,c3⟩;have fa:=aa (b9.after c3);have b5:=aa (ao7 z fa (by rw[cc.out];exact b8.1) HX (by omega) (ow C (bset d.a C.ab.length) l C.ay.length));obtain⟨Y,hY⟩:∃Y,lvS C.ab (ow C (bset d.a C.ab.length) l C.ay.length) d=Y:=⟨_,rfl⟩;have f6:=aa hY;rw[hY]at b5;have f5:Hid (ug C.ab.length Y):=aa (by rw[<-hY];have:=aal (λs=>(z.acts s).2.1) (ow C (bset d.a C.ab.length) l C.ay.length) (acr HX (q8 C.ab (ow C (bset d.a C.ab.length) l C.ay.length) d.a C.ab.length d.au)) C.ab.length;exact this.mono (by omega));have f4:Hid (Y.au.length=d.au.length):=aa (by rw[<-hY];unfold lvS;rw[qw];exact qd ..);clear c3 hY;go_wp2_with fail;refine b5.mono ?_;rintro e w5⟨rfl,hr,hp,ht,hw,ds⟩;have fg:=aa ds;clear ds;have HU:Hid (∀m,acU C.ay l (m+1) Y=doS (es C.ay (l.getD m 0)).acts (acU C.ay l m Y)):=aa (λm=>rfl);have cb:Hid (∀m,ug (C.ab.length+m) (acU C.ay l m Y)):=aa (λm=>ajy (λi=>(z.a1e i).1) f5 m);have fv:Hid (acU C.ay l 0 Y=Y):=aa rfl;have f0:Hid (∀m,(acU C.ay l m Y).au=Y.au):=aa (λm=>yw C.ay l m Y);have a9:Hid (o8 C l d=nd C.ab (λk=>ahv C (acU C.ay l l.length Y).au l C.ay.length k&&!(acU C.ay l l.length Y).a k) C.ab.length (acU C.ay l l.length Y)):=aa (by rw[<-f6.out];rfl);generalize acU C.ay l=U at *;go_wp2_with fail;go_loopw [27] (λi wr=>∃(m:Nat)(er el ev ex:Value),m<=l.length/\i=ι (m:Int)/\Hid (fz w0 (λk=>if (Value.slice A3 l.length f8).ownBlock=some k then w3.heap[k]? else none) t g vs vt C wr er el ev ex (U m Y))) (λi _=>l.length-(intOf i).toNat)
 case atStart=>exact ⟨0,_,_,_,_,ar _,rfl,aa (by rw[fv.out];exact fg)⟩
 case round =>
  obtain⟨m,er,el,ev,ex,hm,rfl,F⟩:=hrel;obtain⟨wo,rfl⟩:∃wo:ω,wo=wr:=⟨_,rfl⟩;have b7:=aa (F.a6v e8);by_cases bt:m<l.length
  . obtain⟨_,_,q1,_,q3⟩:=dc b7;injection q1 with e1 e2 e3;subst e1;obtain⟨bb,oo,f9,hg,hc⟩:=q3 m _ (ae bt);subst f9;have c0:wo.cell? (δ bb (oo+m))=some (ι l[m]):=(by have:=hc;unfold d7 at this;rwa [bq]at this);have hu:=HU.out m;have c7:l.getD m 0=l[m]:=(by rw[bv,ae bt];rfl);rw[c7]at hu;have eb:=b4.out l[m] (bw bt);generalize l[m]=x at *;obtain⟨k,rfl,hk⟩:=yo eb;obtain⟨b,o,f7,wt,wa,gx,_,gi,d6,b0⟩:=z.has.tra hk;subst gx;obtain⟨d0,d1,d2,d3,d4,d5⟩:=d6.below F.below gi;obtain⟨x0,x1,x2,x3⟩:wo.cell? (δ g 0)=some (φ t 0)/\True/\True/\wo.cell? (δ g 3)=some (.slice (some (δ b o)) C.ay.length f7):=⟨F.cells.1.1,trivial,trivial,F.cells.1.2.2.2.1⟩;have f1:=aa hu;have e4:=aa (apr z F (cb m) (by omega) wa (es C.ay (k:Int)).acts (b0.2.below F.below) (z.a1e (k:Int)).1 (z.a1e (k:Int)).2);obtain⟨hl,hn,hd,he,rfl,rfl⟩:=b0.slices;clear hc q3 e2 e3 c7 hu eb d6 b0 x1 x2;generalize (es C.ay (k:Int)).acts.length=al at *;go_wp2_with fail;refine e4.mono ?_;rintro e w6⟨rfl,g3,g0,g4,ha,y⟩;have av:=aa y;clear y c0 d0 d1 d2 d3 d4 d5 x0 x3;go_wp2;go_roundw
    case rel=>exact ⟨m+1,_,_,_,_,by omega,by go_num,aa (by rw[f1.out];exact av)⟩
    case measure=>simp[intOf];omega
  . obtain rfl:m=l.length:=(by omega);have b6:=aa (cb l.length);have b3:=aa (f0 l.length);obtain⟨Z,hZ⟩:∃Z,U l.length Y=Z:=⟨_,rfl⟩;rw[hZ]at F b6 b3 a9;have e5:=aa (as2 z F (by rw[b3.out,f4.out,cc.out];exact b8.2) _ l b7 (by omega));clear hZ;go_wp2_with fail;refine e5.mono ?_;rintro e w6⟨rfl,c4⟩;have fn:=aa (F.after c4);have b2:=aa (agr z fn b6 (by omega) (ahv C Z.au l C.ay.length));clear c4;obtain⟨R,hR⟩:∃R,nd C.ab (λk=>ahv C Z.au l C.ay.length k&&!Z.a k) C.ab.length Z=R:=⟨_,rfl⟩;rw[hR]at b2 a9;clear hR;go_wp2_with fail;refine b2.mono ?_;rintro e w7⟨rfl,g3,g0,g4,ha,y⟩;obtain⟨V,ad,rfl⟩:=y.rows.au.slice;obtain⟨O,Q,rfl⟩:=y.rows.env.slice;obtain⟨ak,am,rfl⟩:=cd y.rows.ins;obtain⟨eg,ek,rfl⟩:=cd y.rows.out;have av:=aa y.drew;have bf:=aa ((ba.below y.below ba.lt).drew);have e0:=aa ((a1.trans (y.below.mono a1.size)).drew);have ax:g≠w.heap.size+1:=(by have:=y.ge;have:=ba.lt;omega);clear y;go_wp2_with fail;obtain⟨⟨-,-,-,-,x4⟩,x5,x6,x7,x8,x9⟩:=av.cells;obtain⟨⟨p0,p1,p2,p3,p4⟩,q0,q1,q2,q3,q4⟩:=d9 bf;refine cr (λW=>(W.cell? (δ g 4)=some (.int .u32 ((bset R.a C.ab.length:Nat):Int))/\W.cell? (δ g 5)=some (.slice V R.au.length ad)/\W.cell? (δ g 6)=some (.slice O R.env.length Q)/\W.cell? (δ g 7)=some (.slice ak R.ins.length am)/\W.cell? (δ g 8)=some (ι R.st))/\W.cell? (δ g 9)=some (.slice eg R.out.length ek)) [] ?_;try simp only[Act.put,sx]
    generalize w7.drew=w8 at *;refine af 0 (φ g 0) ?_;refine af 1 (φ g 0) ?_;refine af 2 (φ g 4) ?_;refine a7 3 (.agg #[.int .u32 ((bset R.a C.ab.length:Nat):Int),.slice V R.au.length ad,.slice O R.env.length Q,.slice ak R.ins.length am,ι R.st]) (⟨⟨x4,x5,x6,x7,x8⟩,x9⟩) ?_;refine af 4 (φ g 0) ?_;refine af 5 (φ g 0) ?_;refine af 6 (φ g 9) ?_;refine a7 7 (.slice eg R.out.length ek) (⟨⟨x4,x5,x6,x7,x8⟩,x9⟩) ?_;try simp only[Act.put,sx]
    have c5:=((((av.blk.db ax 0 (.int .u32 ((bset R.a C.ab.length:Nat):Int))).db ax 1 (.slice V R.au.length ad)).db ax 2 (.slice O R.env.length Q)).db ax 3 (.slice ak R.ins.length am)).db ax 4 (ι R.st);have J:=aa c5;clear c5;refine a8 8 (λK HK=>?_);go_simp;go_simp;refine HK _ _ (λ_ hS=>⟨⟨J.cell 4,J.cell 5,J.cell 6,J.cell 7,J.cell 8⟩,J.cell 9⟩) ?_;try simp only[Act.put,sx]
    refine a8 9 (λK HK=>?_);go_simp;refine HK _ _ (λ_ hS=>hS) ?_;try simp only[Act.put,sx]
    refine ce ?_;go_wp2_with fail;have r1:=av.rows.apart bf (by decide) (by decide) (by decide) (by decide) 0 (.int .u32 ((bset R.a C.ab.length:Nat):Int));have k1:=bf.ca 0 (.int .u32 ((bset R.a C.ab.length:Nat):Int));have r2:=r1.apart k1 (by decide) (by decide) (by decide) (by decide) 1 (.slice V R.au.length ad);have k2:=k1.ca 1 (.slice V R.au.length ad);have r3:=r2.apart k2 (by decide) (by decide) (by decide) (by decide) 2 (.slice O R.env.length Q);have k3:=k2.ca 2 (.slice O R.env.length Q);have r4:=r3.apart k3 (by decide) (by decide) (by decide) (by decide) 3 (.slice ak R.ins.length am);have k4:=k3.ca 3 (.slice ak R.ins.length am);have r5:=r4.apart k4 (by decide) (by decide) (by decide) (by decide) 4 (ι R.st);have k5:=k4.ca 4 (ι R.st);have gg:=(((((e0.setCell (p:=(δ (w.heap.size+1) 0)) (j8 _) (.int .u32 ((bset R.a C.ab.length:Nat):Int))).setCell (p:=(δ (w.heap.size+1) 1)) (j8 _) (.slice V R.au.length ad)).setCell (p:=(δ (w.heap.size+1) 2)) (j8 _) (.slice O R.env.length Q)).setCell (p:=(δ (w.heap.size+1) 3)) (j8 _) (.slice ak R.ins.length am)).setCell (p:=(δ (w.heap.size+1) 4)) (j8 _) (ι R.st));refine bodyPost_ret (ur rfl _ _ _ rfl (se k5)) rfl ?_;rw[a9.out];exact⟨gg,_,_,rfl,_,_,_,rfl,r5.lower f2⟩
theorem apu(v:Value)(y:Nat)(z:List Value)(w:ω)(h:ni w 1 v y z)(hl:y<=1000000):Calls prog 78 #[v] w (yz 33 1 y z w):=by
 obtain⟨d,⟨c,rfl,rfl⟩ | ⟨ad,am,rfl,E,I⟩⟩:=h
 . obtain rfl:z=[]:=bh (by simpa using d);have HB:=aa (ag w.heap.size w);clear d;go_enter func78,ntmps78;go_wp2;go_ret;exact⟨ag _ _,_,rfl,bd _ _ _ _⟩
 . obtain⟨i0,U,Z,ak,al⟩:=ιp Tryz.an5;have V:=aa d;have O:=aa E;have W:=aa I;clear d E I;go_enter func78,ntmps78;go_wp2_with (at_builtin;refine wpList_append_own_at _ rfl _ _ 34 rfl w.heap.size 33 i0 (.int .u32 0) 1 4 underlying34 U Z ak al rfl (by decide) _ 0 [] rfl (bd _ _ _ _) ad y am z rfl V ?c1 W ?c3 ?c4 ?c5 ?_)
   case c1=>exact O
   case c3=>unfold maxLen;omega
   case c4=>omega
   case c5=>exact ai _
   intro v' w2 J F _ _;have Q:=aa (ck (ag w.heap.size w) F (ai _) (λg hg=>by cases hg));have Y:=aa J;clear J F;go_wp2;go_ret;exact⟨Q,_,rfl,by simpa using Y.out⟩
theorem atk(v:Value)(y:Nat)(z:List Value)(w:ω)(h:ni w 1 v y z)(hl:y<=1000000):Calls prog 79 #[v] w (yz 2 1 y z w):=by
 obtain⟨d,⟨c,rfl,rfl⟩ | ⟨ad,am,rfl,E,I⟩⟩:=h
 . obtain rfl:z=[]:=bh (by simpa using d);have HB:=aa (ag w.heap.size w);clear d;go_enter func79,ntmps79;go_wp2;go_ret;exact⟨ag _ _,_,rfl,bd _ _ _ _⟩
 . obtain⟨i0,U,Z,ak,al⟩:=ιp Tryz.ah7;have V:=aa d;have O:=aa E;have W:=aa I;clear d E I;go_enter func79,ntmps79;go_wp2_with (at_builtin;refine wpList_append_own_at _ rfl _ _ 35 rfl w.heap.size 2 i0 (ι 0) 1 8 underlying35 U Z ak al rfl (by decide) _ 0 [] rfl (bd _ _ _ _) ad y am z rfl V ?c1 W ?c3 ?c4 ?c5 ?_)
   case c1=>exact O
   case c3=>unfold maxLen;omega
   case c4=>omega
   case c5=>exact ai _
   intro v' w2 J F _ _;have Q:=aa (ck (ag w.heap.size w) F (ai _) (λg hg=>by cases hg));have Y:=aa J;clear J F;go_wp2;go_ret;exact⟨Q,_,rfl,by simpa using Y.out⟩
theorem a0w(v:Value)(y:Nat)(z:List Value)(w:ω)(h:ni w 1 v y z)(hl:y<=1000000):Calls prog 80 #[v] w (yz 3 1 y z w):=by
 obtain⟨d,⟨c,rfl,rfl⟩ | ⟨ad,am,rfl,E,I⟩⟩:=h
 . obtain rfl:z=[]:=bh (by simpa using d);have HB:=aa (ag w.heap.size w);clear d;go_enter func80,ntmps80;go_wp2;go_ret;exact⟨ag _ _,_,rfl,bd _ _ _ _⟩
 . obtain⟨i0,U,Z,ak,al⟩:=ιp Tryz.info3;have V:=aa d;have O:=aa E;have W:=aa I;clear d E I;go_enter func80,ntmps80;go_wp2_with (at_builtin;refine wpList_append_own_at _ rfl _ _ 36 rfl w.heap.size 3 i0 (ι 0) 1 8 underlying36 U Z ak al rfl (by decide) _ 0 [] rfl (bd _ _ _ _) ad y am z rfl V ?c1 W ?c3 ?c4 ?c5 ?_)
   case c1=>exact O
   case c3=>unfold maxLen;omega
   case c4=>omega
   case c5=>exact ai _
   intro v' w2 J F _ _;have Q:=aa (ck (ag w.heap.size w) F (ai _) (λg hg=>by cases hg));have Y:=aa J;clear J F;go_wp2;go_ret;exact⟨Q,_,rfl,by simpa using Y.out⟩
structure R3 (B:Nat) (w:World) (vh ve vi:Value) (H:List Nat) (env ins:List Int):Prop where
 au:lp B w vh H
 env:ez B w ve env
 ins:p9 B w vi ins
theorem R3.vz{B b k:Nat}{w:ω}{ty:TypeId}{cs:Array Value}{vh ve vi:Value}{H:List Nat}{env V:List Int}(h:R3 B w vh ve vi H env V)(O:cg w b ty cs)(F:33≠ty)(I:2≠ty)(W:3≠ty)(d y z E J:Value):R3 B (abb w b k d y z E J) vh ve vi H env V:=by
 have Q:=O.ca k d;have U:=Q.ca (k+1) y;have k3:=U.ca (k+2) z;have k4:=k3.ca (k+3) E;exact⟨⟨cu.apart (cu.apart (cu.apart (cu.apart (cu.apart h.au.1 O F k d) Q F (k+1) y) U F (k+2) z) k3 F (k+3) E) k4 F (k+4) J,h.au.2⟩,
  cu.apart (cu.apart (cu.apart (cu.apart (cu.apart h.env O I k d) Q I (k+1) y) U I (k+2) z) k3 I (k+3) E) k4 I (k+4) J,abf h.ins O W d y z E J⟩
theorem atj(n:Int)(vh ve vi:Value)(H:List Nat)(env d:List Int)(st:Int)(w:ω)(hH:km w vh H)(d1:H.length<=1000)(hE:fe w ve env)(d0:env.length<=1000)(hI:dd w vi d)(db:d.length<=1000000) :
 Calls prog 38 #[.agg #[.int .u32 n,vh,ve,vi,ι st]] w λe w'=>κ w w'/\∃vh' b5 b6,e=.returned (.agg #[.int .u32 n,vh',b5,b6,ι st])/\R3 w.heap.size w' vh' b5 b6 H env d:=by
 obtain⟨Y,ad,rfl,-⟩:=br.slice hH;obtain⟨U,V,rfl,-⟩:=br.slice (iq hE);obtain⟨iA,ak,rfl,-⟩:=br.slice hI;have b1:κ w ((w.alloc (.cells #[.int .u32 n,.slice Y H.length ad,.slice U env.length V,.slice iA d.length ak,ι st] 38)).alloc (.cells #[.int .u32 0,.slice none 0 0,.slice none 0 0,.slice none 0 0,ι 0] 38)):=(ap w _).alloc (by simp) _;have c0:=aa ((cg.new w 38 #[.int .u32 n,.slice Y H.length ad,.slice U env.length V,.slice iA d.length ak,ι st]).alloc (.cells #[.int .u32 0,.slice none 0 0,.slice none 0 0,.slice none 0 0,ι 0] 38));have c5:=aa (cg.dy (w.alloc (.cells #[.int .u32 n,.slice Y H.length ad,.slice U env.length V,.slice iA d.length ak,ι st] 38)) 38 #[.int .u32 0,.slice none 0 0,.slice none 0 0,.slice none 0 0,ι 0] (w.heap.size+1) (by simp));have b7:=aa b1;have co:=aa (λ(W:ω)(h:κ w W)=>apu _ _ _ W (aeu (hH.below h)) (by omega));have cl:=aa (λ(W:ω)(h:κ w W)=>atk _ _ _ W (l9 (iq (hE.below h))) (by omega));have cv:=aa (λ(W:ω)(h:κ w W)=>a0w _ _ _ W (l9 (hI.below h)) db);have bk:=aa hH.lt;clear hH hE hI b1;go_enter func38,ntmps38;go_wp2_with fail;generalize (w.alloc (.cells #[.int .u32 n,.slice Y H.length ad,.slice U env.length V,.slice iA d.length ak,ι st] 38)).alloc (.cells #[.int .u32 0,.slice none 0 0,.slice none 0 0,.slice none 0 0,ι 0] 38)=w0 at *;refine cr (λW=>W.cell? (δ w.heap.size 1)=some (.slice Y H.length ad)/\W.cell? (δ w.heap.size 2)=some (.slice U env.length V)/\W.cell? (δ w.heap.size 3)=some (.slice iA d.length ak)) [10,12,14] ?_;try simp only[Act.put,sx]
 have a1:=aa b7.drew;have al:=aa c0.drew;have bs:=aa c5.drew;generalize w0.drew=w1 at *;have r1:=al.cell 1;have r2:=al.cell 2;have r3:=al.cell 3;refine af 0 (φ w.heap.size 1) ?_;refine a7 1 (.slice Y H.length ad) (⟨r1,r2,r3⟩) ?_;refine af 3 (φ w.heap.size 2) ?_;refine a7 4 (.slice U env.length V) (⟨r1,r2,r3⟩) ?_;refine af 6 (φ w.heap.size 3) ?_;refine a7 7 (.slice iA d.length ak) (⟨r1,r2,r3⟩) ?_;try simp only[Act.put,sx]
 clear r1 r2 r3;refine a8 2 (λK z=>?_);go_simp;refine(co w1 a1).mono ?_;rintro e w2⟨a4,v2,rfl,b2⟩;have a2:=aa (a1.trans (a4.mono a1.size));have am:=aa (al.below a4 al.lt);have bt:=aa (bs.below a4 bs.lt);have bb:Hid (lp w.heap.size w2 v2 H):=aa ⟨cu.lower (cu.fg (cells:=jg) (n:=1) (λ_=>rfl) b2) a1.size,bk⟩;clear a4 b2;obtain⟨E,I,rfl⟩:=bb.slice;go_simp;refine z _ _ (λ_ hS=>⟨am.cell 1,am.cell 2,am.cell 3⟩) ?_;try simp only[Act.put,sx]
 refine af 9 (φ w.heap.size 1) ?_;try simp only[Act.put,sx]
 refine a8 5 (λK z=>?_);go_simp;refine(cl w2 a2).mono ?_;rintro e w3⟨ax,v3,rfl,b3⟩;have a3:=aa (a2.trans (ax.mono a2.size));have av:=aa (am.below ax am.lt);have b0:=aa (bt.below ax bt.lt);have cb:=aa (bb.below ax);have ba:Hid (ez w.heap.size w3 v3 env):=aa (cu.lower (abn b3 rfl) a2.size);clear ax b3;obtain⟨F,J,rfl⟩:=ez.slice ba;go_simp;refine z _ _ (λ_ hS=>⟨av.cell 1,av.cell 2,av.cell 3⟩) ?_;try simp only[Act.put,sx]
 refine a8 8 (λK z=>?_);go_simp;refine(cv w3 a3).mono ?_;rintro e w4⟨Z,v4,rfl,b4⟩;have b8:=aa (a3.trans (Z.mono a3.size));have y:=aa (av.below Z av.lt);have c7:=aa (b0.below Z b0.lt);have cc:=aa (cb.below Z);have ca:=aa (ez.below ba Z);have bf:Hid (p9 w.heap.size w4 v4 d):=aa (aak b4 a3.size);clear Z b4;obtain⟨O,Q,rfl⟩:=cd bf;go_simp;refine z _ _ (λ_ hS=>⟨y.cell 1,y.cell 2,y.cell 3⟩) ?_;try simp only[Act.put,sx]
 have g1:=y.cell 1;have g2:=y.cell 2;have g3:=y.cell 3;have k1:=y.frozen 1;have k2:=y.frozen 2;have k3:=y.frozen 3;refine a8 10 (λK z=>?_);go_simp;go_simp;refine z _ _ (λh=>absurd h (by decide)) ?_;try simp only[Act.put,sx]
 refine af 11 (φ w.heap.size 2) ?_;try simp only[Act.put,sx]
 refine a8 12 (λK z=>?_);go_simp;go_simp;refine z _ _ (λh=>absurd h (by decide)) ?_;try simp only[Act.put,sx]
 refine af 13 (φ w.heap.size 3) ?_;try simp only[Act.put,sx]
 refine a8 14 (λK z=>?_);go_simp;go_simp;refine z _ _ (λh=>absurd h (by decide)) ?_;try simp only[Act.put,sx]
 refine ce ?_;have c1:=aa ((((y.ca 1 (.slice E H.length I)).ca 2 (.slice F env.length J)).ca 3 (.slice O d.length Q)));have a0:=y.ca 1 (.slice E H.length I);have a5:=a0.ca 2 (.slice F env.length J);have ci:Hid (R3 w.heap.size (((w4.setCell (δ w.heap.size 1) (.slice E H.length I)).setCell (δ w.heap.size 2) (.slice F env.length J)).setCell (δ w.heap.size 3) (.slice O d.length Q)) (.slice E H.length I) (.slice F env.length J) (.slice O d.length Q) H env d):=aa ⟨
  ⟨cu.apart (cu.apart (cu.apart cc.1 y (by decide) 1 _) a0 (by decide) 2 _) a5 (by decide) 3 _,bk⟩,
  cu.apart (cu.apart (cu.apart ca y (by decide) 1 _) a0 (by decide) 2 _) a5 (by decide) 3 _,
  du (du (du bf y (by decide) 1 _) a0 (by decide) 2 _) a5 (by decide) 3 _⟩
 have a9:=aa (((c7.db (g':=w.heap.size) (by omega) 1 (.slice E H.length I)).db (g':=w.heap.size) (by omega) 2 (.slice F env.length J)).db (g':=w.heap.size) (by omega) 3 (.slice O d.length Q));have b9:=aa (((b8.setCell (p:=(δ w.heap.size 1)) (ai _) (.slice E H.length I)).setCell (p:=(δ w.heap.size 2)) (ai _) (.slice F env.length J)).setCell (p:=(δ w.heap.size 3)) (ai _) (.slice O d.length Q));clear a0 a5 g1 g2 g3 k1 k2 k3;generalize (((w4.setCell (δ w.heap.size 1) (.slice E H.length I)).setCell (δ w.heap.size 2) (.slice F env.length J)).setCell (δ w.heap.size 3) (.slice O d.length Q))=w5 at *;obtain⟨⟨x0,x1,x2,x3,x4⟩,-⟩:=d9 c1;obtain⟨⟨y0,y1,y2,y3,y4⟩,q0,q1,q2,q3,q4⟩:=d9 a9;go_wp2_with fail;have dy:=ci.vz (k:=0) a9 (by decide) (by decide) (by decide) (.int .u32 n) (.slice E H.length I) (.slice F env.length J) (.slice O d.length Q) (ι st);have ds:=((((b9.setCell (p:=(δ (w.heap.size+1) 0)) (j8 _) (.int .u32 n)).setCell (p:=(δ (w.heap.size+1) 1)) (j8 _) (.slice E H.length I)).setCell (p:=(δ (w.heap.size+1) 2)) (j8 _) (.slice F env.length J)).setCell (p:=(δ (w.heap.size+1) 3)) (j8 _) (.slice O d.length Q)).setCell (p:=(δ (w.heap.size+1) 4)) (j8 _) (ι st);refine bodyPost_ret (l2 rfl _ _ _ rfl (se (((((a9.ca 0 _).ca 1 _).ca 2 _).ca 3 _).ca 4 _))) rfl ?_;exact⟨ds,_,_,_,rfl,dy⟩
section
variable {w0:World} {t g:Nat} {C:Ch} {w:World} {vh ve vi vo:Value} {X:Se} {f:Nat}
theorem ava(hL:ju w0)(hT:fs w0 t C)(hC:Chk C)(h:i8 w0 t g C w vh ve vi vo X f)(hl:X.au.length=C.ab.length)(b1:X.env.length<=1000)(b0:∀x∈X.env,uj x)(co:X.ins.length<=100000)(c0:X.out.length<=1000000)
 (vl:Value)(l:List Int)(hv:dd w vl l)(d6:l.length<=24)(cv:∀i∈l,s7 C.ay i=true) :
 Calls prog 83 #[φ g 0,vl] w (bct w0 t g C (ahl C l X) f):=by
 obtain⟨i1,JI,c7,db,ds⟩:=ιp Tryz.zz;have d0:=(gr hC.chk).len;have b4:=λ(W:ω)(hb:κ w W)=>az6 t C W (hL.after (h.after hb).below) (hT.below (h.after hb).below) hC.chk hC.fewB (cm (cfN C X)) vh ve vi vl X.au X.env X.ins l X.st (h.after hb).rows.au.au (by omega) (ez.nums (h.after hb).rows.env) b1 b0 (h.after hb).rows.ins.list co (hv.below hb) (by omega) cv;obtain⟨Y,hY⟩:∃Y,o8 C l ⟨cm (cfN C X),pm C.ab.length X.au,X.env,X.ins,X.st,[]⟩=Y:=⟨_,rfl⟩;have cc:Y.out.length<=50*1000:=by have:=(af0 hC.few l (n:=0) (X:=⟨cm (cfN C X),pm C.ab.length X.au,X.env,X.ins,X.st,[]⟩) ⟨b1,b0,by simp,by show X.ins.length<=_;omega⟩).out;rw[hY]at this;omega
 have HR:Hid (ahl C l X=⟨Y.a,Y.au,Y.env,Y.ins,Y.st,X.out++Y.out⟩):=aa (by rw[<-hY];rfl);rw[hY,ax6]at b4;have bk:Hid (∀(W:ω),κ w W->Calls prog 151 #[φ t 0,.agg #[.int .u32 ((bset X.a C.ab.length:Nat):Int),vh,ve,vi,ι X.st],vl] W (a6e C Y W)):=aa b4;have HS:=aa h;have ca:=aa cc;have b8:=aa c0;obtain⟨hA,cl,rfl⟩:=h.rows.au.slice;obtain⟨eA,cb,rfl⟩:=ez.slice h.rows.env;obtain⟨iA,c1,rfl⟩:=h.rows.ins.slice;obtain⟨oA,eb,rfl⟩:=cd h.rows.out;obtain⟨lA,d1,rfl,-⟩:=br.slice hv;clear hL hT hC h hl b1 b0 co hv cv b4 hY cc d0 c0;have b5:=aa (ag w.heap.size w);go_enter func83,ntmps83;go_wp2_with fail;refine cr (λW=>W.cell? (δ g 0)=some (φ t 0)/\W.cell? (δ g 1)=some (.int .u32 ((bset X.a C.ab.length:Nat):Int))/\W.cell? (δ g 2)=some (.slice hA X.au.length cl)/\W.cell? (δ g 3)=some (.slice eA X.env.length cb)/\W.cell? (δ g 4)=some (.slice iA X.ins.length c1)/\W.cell? (δ g 5)=some (ι X.st)) [14] ?_;try simp only[Act.put,sx]
 have av:=aa HS.out.drew;have a4:=aa b5.out.drew;clear HS b5;generalize w.drew=w1 at *;obtain⟨y,z,E,F,I,J,x6,x7⟩:=av.out.cells;refine af 0 (φ g 0) ?_;refine af 1 (φ g 0) ?_;refine af 2 (φ g 0) ?_;refine a7 3 (φ t 0) (⟨y,z,E,F,I,J⟩) ?_;refine af 4 (φ g 0) ?_;refine af 5 (φ g 0) ?_;refine af 6 (φ g 1) ?_;refine a7 7 (.agg #[.int .u32 ((bset X.a C.ab.length:Nat):Int),.slice hA X.au.length cl,.slice eA X.env.length cb,.slice iA X.ins.length c1,ι X.st]) (⟨y,z,E,F,I,J⟩) ?_;refine af 8 (.slice lA l.length d1) ?_;try simp only[Act.put,sx]
 clear y z E F I J x6 x7;refine t8 9 13 (λK d=>?orderA) (λK d=>?orderB)
 case' orderA =>
  go_simp;refine(bk.out w1 a4.out).mono ?_;rintro e w2⟨ci,v2,d5,rfl,d3,d2,d4,rfl,O⟩;obtain⟨V,Z,rfl⟩:=O.au.slice;obtain⟨Q,U,rfl⟩:=ez.slice O.env;obtain⟨ad,ak,rfl⟩:=cd O.ins;obtain⟨a1,a2,rfl⟩:=cd O.out;have al:=aa (av.out.after ci);have b9:=aa (O.lower av.out.lt);clear ci O;obtain⟨y,z,E,F,I,J,x6,x7⟩:=al.out.cells;go_simp;refine d.out _ _ (λ_ hS=>⟨y,z,E,F,I,J⟩) ?_;clear d K;try simp only[Act.put,sx]
  refine af 10 (.tuple #[.agg #[.int .u32 ((bset Y.a C.ab.length:Nat):Int),.slice V Y.au.length Z,.slice Q Y.env.length U,.slice ad Y.ins.length ak,ι Y.st],.slice a1 Y.out.length a2]) ?_;refine af 11 (.agg #[.int .u32 ((bset Y.a C.ab.length:Nat):Int),.slice V Y.au.length Z,.slice Q Y.env.length U,.slice ad Y.ins.length ak,ι Y.st]) ?_;refine af 12 (.slice a1 Y.out.length a2) ?_;try simp only[Act.put,sx]
  have a3:=aa (al.out.after (ap w2 (.cells #[.int .u32 0,.slice none 0 0,.slice none 0 0,.slice none 0 0,ι 0] 38)));have bb:=aa (b9.out.below (ap w2 (.cells #[.int .u32 0,.slice none 0 0,.slice none 0 0,.slice none 0 0,ι 0] 38)));have am:=aa (cg.new w2 38 #[.int .u32 0,.slice none 0 0,.slice none 0 0,.slice none 0 0,ι 0]);have b6:=aa al.out.lt;clear y z E F I J x6 x7 al b9;obtain⟨y,z,E,F,I,J,x6,x7⟩:=a3.out.cells;refine a8 13 (λK d=>?_);go_simp;go_simp;refine d.out _ _ (λ_ hS=>⟨y,z,E,F,I,J⟩) ?_;clear d K;try simp only[Act.put,sx]
  generalize w2.alloc (.cells #[.int .u32 0,.slice none 0 0,.slice none 0 0,.slice none 0 0,ι 0] 38)=w3 at *;generalize w2.heap.size=b at *
 case' orderB =>
  have al:=aa (av.out.after (ap w1 (.cells #[.int .u32 0,.slice none 0 0,.slice none 0 0,.slice none 0 0,ι 0] 38)));have a9:=aa (cg.new w1 38 #[.int .u32 0,.slice none 0 0,.slice none 0 0,.slice none 0 0,ι 0]);have b6:=aa av.out.lt;obtain⟨y,z,E,F,I,J,x6,x7⟩:=al.out.cells;go_simp;refine d.out _ _ (λ_ hS=>⟨y,z,E,F,I,J⟩) ?_;clear d K;try simp only[Act.put,sx]
  clear y z E F I J x6 x7;refine a8 9 (λK d=>?_);go_simp;refine(bk.out _ (a4.out.alloc a4.out.size (.cells #[.int .u32 0,.slice none 0 0,.slice none 0 0,.slice none 0 0,ι 0] 38))).mono ?_;rintro e w3⟨bs,v2,d5,rfl,d3,d2,d4,rfl,O⟩;obtain⟨V,Z,rfl⟩:=O.au.slice;obtain⟨Q,U,rfl⟩:=ez.slice O.env;obtain⟨ad,ak,rfl⟩:=cd O.ins;obtain⟨a1,a2,rfl⟩:=cd O.out;have a3:=aa (al.out.after bs);have bb:=aa (O.lower al.out.lt);have am:=aa (a9.out.below bs a9.out.lt);clear bs O al a9;obtain⟨y,z,E,F,I,J,x6,x7⟩:=a3.out.cells;go_simp;refine d.out _ _ (λ_ hS=>⟨y,z,E,F,I,J⟩) ?_;clear d K;try simp only[Act.put,sx]
  refine af 10 (.tuple #[.agg #[.int .u32 ((bset Y.a C.ab.length:Nat):Int),.slice V Y.au.length Z,.slice Q Y.env.length U,.slice ad Y.ins.length ak,ι Y.st],.slice a1 Y.out.length a2]) ?_;refine af 11 (.agg #[.int .u32 ((bset Y.a C.ab.length:Nat):Int),.slice V Y.au.length Z,.slice Q Y.env.length U,.slice ad Y.ins.length ak,ι Y.st]) ?_;refine af 12 (.slice a1 Y.out.length a2) ?_;try simp only[Act.put,sx]
  generalize w1.heap.size=b at *
 all_goals
  clear av a4 bk
  obtain⟨⟨p0,p1,p2,p3,p4⟩,q0,q1,q2,q3,q4⟩:=d9 am.out
  refine a8 14 (λK d=>?_)
  go_simp
  go_simp
  refine d.out _ _ (λh=>absurd h (by decide)) ?_
  clear d K
  try simp only[Act.put,sx]
  refine a8 15 (λK d=>?_)
  go_simp
  refine d.out _ _ (λ_ hS=>hS) ?_
  clear d K
  try simp only[Act.put,sx]
  refine ce ?_
  have ax:=aa (a3.out.vz am.out b6.out (.int .u32 ((bset Y.a C.ab.length:Nat):Int)) (.slice V Y.au.length Z) (.slice Q Y.env.length U) (.slice ad Y.ins.length ak) (ι Y.st))
  have a5:=aa (bb.out.vz (k:=0) am.out (by decide) (by decide) (by decide) (by decide) (.int .u32 ((bset Y.a C.ab.length:Nat):Int)) (.slice V Y.au.length Z) (.slice Q Y.env.length U) (.slice ad Y.ins.length ak) (ι Y.st))
  have ba:Hid (cg (abb w3 b 0 (.int .u32 ((bset Y.a C.ab.length:Nat):Int)) (.slice V Y.au.length Z) (.slice Q Y.env.length U) (.slice ad Y.ins.length ak) (ι Y.st)) b 38 #[.int .u32 ((bset Y.a C.ab.length:Nat):Int),.slice V Y.au.length Z,.slice Q Y.env.length U,.slice ad Y.ins.length ak,ι Y.st]):=aa (((((am.out.ca 0 _).ca 1 _).ca 2 _).ca 3 _).ca 4 _)
  clear a3 bb am y z E F I J x6 x7 p0 p1 p2 p3 p4 q0 q1 q2 q3 q4
  simp only[abb,j2]at ax a5 ba
  generalize ((((w3.setCell (δ b 0) (.int .u32 ((bset Y.a C.ab.length:Nat):Int))).setCell (δ b 1) (.slice V Y.au.length Z)).setCell (δ b 2) (.slice Q Y.env.length U)).setCell (δ b 3) (.slice ad Y.ins.length ak)).setCell (δ b 4) (ι Y.st)=w4 at *
  obtain⟨⟨p0,p1,p2,p3,p4⟩,-⟩:=d9 ba.out
  obtain⟨y,z,E,F,I,J,x6,x7⟩:=ax.out.cells
  obtain⟨f1,f2,f3,f4,f5,f6,f7⟩:=ax.out.ww
  have a0:=aa (ax.out.bae a5.out)
  have b7:Hid (iw w0.heap.size (abb w4 g 1 (.int .u32 ((bset Y.a C.ab.length:Nat):Int)) (.slice V Y.au.length Z) (.slice Q Y.env.length U) (.slice ad Y.ins.length ak) (ι Y.st)) (.slice a1 Y.out.length a2) Y.out):=aa (abf a5.out.out ax.out.blk (by decide) _ _ _ _ _)
  have bf:=aa (aet (iw.outs b7.out))
  simp only[abb,Nat.reduceAdd]at a0 bf
  clear ax a5 b7 ba
  go_wp2_with (at_builtin;refine fh rfl _ _ 39 rfl w0.heap.size 73 i1 (.agg #[ι 0,ι 0,ι 0,ι 0]) 4 32 underlying39 JI.out c7.out db.out ds.out rfl (by decide) _ X.out.length (X.out.flatMap ft) rfl a0.out.rows.out _ Y.out.length (Y.out.flatMap ft) rfl bf.out (ag _ _) ?c3 ?c4 ?c5 ?_)
  case c3=>have:=ca.out;have:=b8.out;unfold maxLen;omega
  case c4=>have:=ca.out;have:=b8.out;omega
  case c5=>exact a0.out.lt
  intro v6 w6 b3 b2 h6
  obtain⟨A6,dy,rfl⟩:=cd b3
  have c2:=aa (a0.out.ab3 (L:=X.out++Y.out) b2 (by unfold iw;rw[aw,j7];exact b3))
  have bt:=a0.out.bag b2 (vo':=.slice A6 (X.out.length+Y.out.length) dy) (L:=X.out++Y.out)
  have y7:=bt.cell 7
  have u7:=bt.frozen 7
  clear b3 b2 h6 bt a0 bf y z E F I J x6 x7 f1 f2 f3 f4 f5 f6 f7 p0 p1 p2 p3 p4
  go_wp2
  go_end0
  rw[HR.out]
  exact⟨rfl,_,_,_,_,c2.out⟩
end
theorem am7(C:Ch)(d:Int)(X:Se)(k:Nat):ff C d X (k+1)=(decide (mz C d X≠ []),uo C d X,k):=rfl
def amb(W:ω)(B:Nat)(v u:Value)(L:List Int):Prop:=W.ownsRow B 3 1 v L.length (bg L)/\(v.ownBlock=none\/v.ownBlock≠u.ownBlock)
theorem amb.grown{W z:ω}{B:Nat}{v u F:Value}{L:List Int}(h:amb W B v u L)(J:W.grownBy z u.ownBlock)(O:∀k,F.ownBlock=some k->u.ownBlock=some k\/W.heap.size<=k):amb z B v F L:=by
 refine⟨h.1.kept J h.2,?_⟩;cases y:v.ownBlock with
 | none=>exact .inl rfl
 | some k =>
  refine .inr λI=>?_;rcases O k I.symm with E | E
  . rcases h.2 with d | d
    . rw[y]at d;cases d
    . exact d (by rw[y,E])
  . have:=(h.1.lt k y).2;omega
theorem amb.below{W d:ω}{B:Nat}{v u:Value}{L:List Int}(h:amb W B v u L)(y:κ W d):amb d B v u L:=⟨bl h.1 y,h.2⟩
theorem amb.apart{W:ω}{B g:Nat}{v u:Value}{L:List Int}{t:TypeId}{cs:Array Value}(h:amb W B v u L)(d:cg W g t cs)(y:3≠t)(j:Nat)(x:Value):amb (W.setCell (δ g j) x) B v u L:=⟨du h.1 d y j x,h.2⟩
theorem anx(X:Se):X.ix 0=X:=by show (⟨X.a,X.au,X.env,X.ins ++ [],X.st,X.out⟩:Se)=X;rw[dz]
theorem anz(X:Se)(m:Nat):X.ix (m+1)=⟨X.a,X.au,X.env,(X.ix m).ins ++ [1001],X.st,X.out⟩:=by show (⟨X.a,X.au,X.env,X.ins++List.replicate (m+1) 1001,X.st,X.out⟩:Se)=⟨X.a,X.au,X.env,(X.ins++List.replicate m 1001) ++ [1001],X.st,X.out⟩;rw[j4,<-List.replicate_succ']
section
variable {w0:World} {t g:Nat} {C:Ch} {w:World} {vh ve vi vo:Value} {X:Se} {f:Nat}
def awm(w0:ω)(t g:Nat)(C:Ch)(b:Bool)(Y:Se)(f:Nat)(e:Ending)(d:ω):Prop:=e=.returned (.bool b)/\∃vh ve vi vo,i8 w0 t g C d vh ve vi vo Y f
theorem auu(h:i8 w0 t g C w vh ve vi vo X 0)(y:Int):Calls prog 40 #[φ g 0,ι y] w (awm w0 t g C false (X.lq 3) 0):=by obtain ⟨Q,U,V,W,Y,x5,x6,Z⟩:=h.cells;obtain⟨z,E,F,I,f5,J,O⟩:=h.ww;have d:=aa (h.lq 3);clear h Q U V W Y Z z E F I J O;go_enter func40,ntmps40;go_wp2;go_ret;exact⟨rfl,_,_,_,_,d⟩
theorem azi(hL:ju w0)(hT:fs w0 t C)(hC:Chk C)(h:i8 w0 t g C w vh ve vi vo X f)(ad:Okw C X)(h1:X.st=1)(e3:X.out.length<=900000)(k:Nat)(hk:f=k+1)(hf:f<=40)(d:Int) :
 Calls prog 40 #[φ g 0,ι d] w (awm w0 t g C (decide (mz C d X≠ [])) (uo C d X) k):=by
 obtain⟨iI,KI,ex,e0,e1⟩:=ιp Tryz.info3;have al:=gr hC.chk;have b2:=aho hC.chk;have hn:bset X.a C.ab.length<4294967296:=fy _ (by have:=al.len;omega);have ds:=aa (λ(W:ω)(hb:κ w0 W)(hE:fe W ve X.env)=>avn t (bset X.a C.ab.length) ve d C X.env W (hL.after hb) (hT.below hb) hC.fewB al b2 hn hE (by have:=ad.el;have:=hC.vars;omega) ad.fit);have d6:=aa (λ(W:ω)(vl:Value)(l:List Int)(hb:κ w0 W)(hv:dd W vl l)(hl:l.length<=800)=>a22 t (bset X.a C.ab.length) vl l C W (hT.below hb) hC.fewB al b2 hn hv hl);have dy:=aa (apf C X.env d (bset X.a C.ab.length));have a0:Hid ((gaL C X.env d (bset X.a C.ab.length)).2<=36000):=aa (aga al hC.fewB d X);have d0:=aa (ad.il h1);have c2:=aa al.len;have d4:Hid (zj (siL C (leftN C (bset X.a C.ab.length)) (gaL C X.env d (bset X.a C.ab.length)).1)=mz C d X):=aa rfl;have d5:Hid ((gaL C X.env d (bset X.a C.ab.length)).2=uq C d X):=aa rfl;have eb:=aa (λ(W:ω)(ba vl:Value)(m:Nat)(hs:i8 w0 t g C W vh ve ba vo (X.ix m) k)(hm:m<=36000)(hv:dd W vl (mz C d X))=>ava hL hT hC hs ad.hl (by show X.env.length<=1000;have:=ad.el;have:=hC.vars;omega) ad.fit (by show (X.ins++List.replicate m 1001).length<=_;rw[aw,ch];have:=ad.il h1;omega) (by show X.out.length<=_;omega) vl (mz C d X) hv (a6 (aco C d X) al.len) (aw4 C d X));have HS:=aa h;obtain⟨y,E,I,F,J,U,O,Q⟩:=h.cells;obtain⟨f1,f2,f3,f4,f5,f6,f7⟩:=h.ww;have hz:(((f:Nat):Int)==0)=false:=fw (by omega);have e5:IntKind.i64.wrap ((f:Int)-1)=(k:Int):=by rw[ns];omega
 obtain⟨hA,e2,rfl⟩:=h.rows.au.slice;obtain⟨eA,bt,rfl⟩:=ez.slice h.rows.env;obtain⟨iA,e6,rfl⟩:=h.rows.ins.slice;have HK:=aa hk;clear hL hT hC h ad al b2 hn e3 h1 hk hf y E I F J U Q;go_enter func40,ntmps40;go_wp2_with fail;refine cr (λW=>W.cell? (δ g 0)=some (φ t 0)/\W.cell? (δ g 1)=some (.int .u32 ((bset X.a C.ab.length:Nat):Int))/\W.cell? (δ g 3)=some (.slice eA X.env.length bt)) [] ?_;try simp only[Act.put,sx]
 have a1:=aa (HS.a94 k).drew;clear hz e5 O f1 f2 f3 f4 f5 f6 f7;generalize (w.setCell (δ g 6) (ι (k:Int))).drew=w1 at *;obtain⟨y,E,I,F,J,U,O,Q⟩:=a1.cells;refine af 0 (φ g 0) ?_;refine af 1 (φ g 0) ?_;refine af 2 (φ g 0) ?_;refine a7 3 (φ t 0) (⟨y,E,F⟩) ?_;refine af 4 (φ g 0) ?_;refine af 5 (φ g 0) ?_;refine af 6 (φ g 1) ?_;refine af 7 (φ g 1) ?_;refine a7 8 (.int .u32 ((bset X.a C.ab.length:Nat):Int)) (⟨y,E,F⟩) ?_;refine af 9 (φ g 0) ?_;refine af 10 (φ g 0) ?_;refine af 11 (φ g 1) ?_;refine af 12 (φ g 3) ?_;refine a7 13 (.slice eA X.env.length bt) (⟨y,E,F⟩) ?_;refine af 14 (ι d) ?_;try simp only[Act.put,sx]
 refine a8 15 (λK HK=>?_);go_simp;refine(ds w1 a1.below (ez.nums a1.rows.env)).mono ?_;rintro e w2⟨cc,v2,rfl,b1⟩;have bb:=aa (a1.after cc);have d1:=aa (dc b1);obtain⟨gA,a2,rfl⟩:=cd b1;clear cc b1 y E I F J U O Q;obtain⟨y,E,I,F,J,U,O,Q⟩:=bb.cells;go_simp;refine HK _ _ (λ_ hS=>⟨y,E,F⟩) ?_;try simp only[Act.put,sx]
 refine af 16 (.tuple #[.slice gA (gaL C X.env d (bset X.a C.ab.length)).1.length a2,ι ((gaL C X.env d (bset X.a C.ab.length)).2:Int)]) ?_;refine af 17 (.slice gA (gaL C X.env d (bset X.a C.ab.length)).1.length a2) ?_;refine af 18 (ι ((gaL C X.env d (bset X.a C.ab.length)).2:Int)) ?_;try simp only[Act.put,sx]
 refine a8 19 (λK HK=>?_);go_simp;refine HK _ _ (λ_ hS=>hS) ?_;try simp only[Act.put,sx]
 refine a8 20 (λK HK=>?_);go_simp;refine HK _ _ (λ_ hS=>hS) ?_;try simp only[Act.put,sx]
 refine ce ?_;have cb:=aa (λ(W:ω)(hb:κ w2 W)=>d6 W (.slice gA (gaL C X.env d (bset X.a C.ab.length)).1.length a2) (gaL C X.env d (bset X.a C.ab.length)).1 (bb.after hb).below (d1.below hb) (by have:=dy.out;have:=c2.out;omega));rw[d4.out]at cb;rw[d5.out]at a0 ⊢;generalize (gaL C X.env d (bset X.a C.ab.length)).1.length=gl at *;generalize hM:uq C d X=M at *;have HM:=aa hM;clear hM y E I F J U O Q;have c0:=aa (ag w2.heap.size w2);go_wp2_with fail;refine cr (λW=>W.cell? (δ g 0)=some (φ t 0)/\W.cell? (δ g 1)=some (.int .u32 ((bset X.a C.ab.length:Nat):Int))) [] ?_;try simp only[Act.put,sx]
 have bf:=aa bb.drew;have c1:=aa c0.drew;generalize w2.drew=w3 at *;obtain⟨y,E,I,F,J,U,O,Q⟩:=bf.cells;refine af 0 (φ g 0) ?_;refine af 1 (φ g 0) ?_;refine af 2 (φ g 0) ?_;refine a7 3 (φ t 0) (⟨y,E⟩) ?_;refine af 4 (φ g 0) ?_;refine af 5 (φ g 0) ?_;refine af 6 (φ g 1) ?_;refine af 7 (φ g 1) ?_;refine a7 8 (.int .u32 ((bset X.a C.ab.length:Nat):Int)) (⟨y,E⟩) ?_;refine af 9 (.slice gA gl a2) ?_;try simp only[Act.put,sx]
 refine a8 10 (λK HK=>?_);go_simp;refine(cb w3 c1).mono ?_;rintro e w4⟨ci,v4,rfl,a9⟩;have b7:Hid (amb w4 w3.heap.size v4 (.slice iA X.ins.length e6) (mz C d X)):=aa ⟨a9,by
  cases hv:v4.ownBlock with
  | none=>exact .inl rfl
  | some k =>
   refine .inr λhc=>?_
   have h1:=(a9.lt k hv).1
   have h2:=(bf.rows.ins.lt k hc.symm).2
   omega⟩
 have ca:=aa (bf.after ci);obtain⟨kA,e7,rfl⟩:=cd a9;clear ci a9 y E I F J U O Q;obtain⟨y,E,I,F,J,U,O,Q⟩:=ca.cells;go_simp;refine HK _ _ (λ_ hS=>⟨y,E⟩) ?_;try simp only[Act.put,sx]
 refine a8 11 (λK HK=>?_);go_simp;refine HK _ _ (λ_ hS=>hS) ?_;try simp only[Act.put,sx]
 refine ce ?_;clear y E I F J U O Q;have eg:=aa (anx X);have el:=aa (anz X);have HR:Hid (uo C d X=q9 (tb C (mz C d X) (X.ix M))):=aa (by rw[<-HM.out];rfl);generalize mz C d X=l at *;obtain⟨q,hq⟩:∃q,l.length=q:=⟨_,rfl⟩;have HQ:=aa hq;rw[hq];rw[hq]at b7;clear hq;go_wp2_with fail;go_loopw [54] (λi wr=>∃(m:Nat)(ba:Value),m<=M/\i=ι (m:Int)/\Hid (i8 w0 t g C wr (.slice hA X.au.length e2) (.slice eA X.env.length bt) ba vo (X.ix m) k)/\Hid (amb wr w3.heap.size (.slice kA q e7) ba l)) (λi _=>M-(intOf i).toNat)
 case atStart=>exact ⟨0,_,ar _,rfl,aa (by rw[eg.out];exact ca),b7⟩
 case round =>
  obtain⟨m,fu,hm,rfl,ax,b9⟩:=hrel;obtain⟨wo,rfl⟩:∃wo:ω,wo=wr:=⟨_,rfl⟩;have e8:=a0.out;by_cases e9:m<M
  . obtain⟨A5,c5,rfl⟩:=ax.rows.ins.slice;have b6:=ap wo (.cells #[ι 1001] 3);have am:=aa (ax.after b6);have db:=aa (b9.below b6);have d3:=aa ((cg.new wo 3 #[ι 1001]).cell 0);have cl:(X.ix m).ins.length<=40000:=(by show (X.ins++List.replicate m 1001).length<=_;rw[aw,ch];have:=d0.out;have:=a0.out;omega);have b3:=aa cl;have ek:=aa (el m);clear cl;generalize hY:X.ix m=Y at *;have er:Hid (⟨Y.a,Y.au,Y.env,Y.ins ++ [1001],Y.st,Y.out⟩=X.ix (m+1)):=aa (by rw[ek.out,<-hY];rfl);clear hY;obtain⟨y,E,I,F,J,U,O,Q⟩:=am.cells;obtain⟨f1,f2,f3,f4,f5,f6,f7⟩:=am.ww;have y4:=ax.cells.2.2.2.2.1;clear y E I F U O Q f1 f2 f3 f5 f6 f7;go_wp2_with (at_builtin;refine ahe rfl _ _ 36 rfl w0.heap.size 3 iI (ι 0) 8 underlying36 KI.out ex.out e0.out e1.out rfl _ Y.ins rfl am.rows.ins (δ wo.heap.size 0) 1 1001 rfl d3 ?c3 ?c4 ?c5 ?_)
    case c3=>have:=b3.out;unfold maxLen;omega
    case c4=>have:=b3.out;omega
    case c5=>exact am.lt
    intro v7 w7 a5 a4 co;obtain⟨A7,c7,rfl⟩:=a5.slice;have bk:=aa (am.ub a4 a5);have a3:=am.bah a4 a5;have b8:=aa ((db.grown a4 (by simpa using co)).apart a3 (by decide) 4 (.slice A7 (Y.ins ++ [1001]).length c7));have z4:=a3.cell 4;have g4:=a3.frozen 4;rw[er.out]at bk;simp only[aw,gq]at bk b8 z4;clear a5 a4 co a3 J f4 y4;go_wp2;go_roundw
    case rel=>exact ⟨m+1,_,by omega,by go_num,bk,b8⟩
    case measure=>simp[intOf];omega
  . obtain rfl:M=m:=(by omega);have d2:=aa (dc b9.1);by_cases hl:l=[]
    . have e4:q=0:=(by rw[<-HQ.out,hl];rfl);subst e4;have av:Hid (uo C d X=q9 (X.ix M)):=aa (by rw[HR.out,hl];rfl);have b4:Hid (decide (l≠ [])=false):=aa (df (λh=>h hl));have V:=ax;clear hl;generalize X.ix M=Z at *;obtain⟨A9,c9,rfl⟩:=V.rows.ins.slice;obtain⟨y,E,I,F,J,U,O,Q⟩:=V.cells;obtain⟨f1,f2,f3,f4,f5,f6,f7⟩:=V.ww;obtain⟨z,hz⟩:∃z,Z.ins.length=z:=⟨_,rfl⟩;have HZ:=aa hz;rw[hz]at J;clear hz y E I F O Q f1 f2 f3 f4 f6 f7;by_cases hi:50<z
      . have bs:=aa (V.lq 3);have ak:Hid (q9 Z=Z.lq 3):=aa (by unfold q9;rw[ao (by rw[HZ.out];exact hi)]);have b0:decide ((50:Int)<(z:Int))=true:=em (by omega);clear hi;go_wp2;go_ret;exact⟨by rw[b4.out];rfl,_,_,_,_,by rw[av.out,ak.out];exact bs⟩
      . have ak:Hid (q9 Z=Z):=aa (by unfold q9;rw[ah (by rw[HZ.out];exact hi)]);have b0:decide ((50:Int)<(z:Int))=false:=df (by omega);clear hi;go_wp2;go_ret;exact⟨by rw[b4.out];rfl,_,_,_,_,by rw[av.out,ak.out];exact V⟩
    . have fa:0<q:=(by rw[<-HQ.out];exact List.length_pos_iff.2 hl);have b5:Hid (decide (l≠ [])=true):=aa (em hl);have av:Hid (uo C d X=q9 (ahl C l (X.ix M))):=aa (by rw[HR.out];unfold tb;rw[ah hl]);clear hl;go_wp2_with fail;refine(eb wo _ _ M ax a0 d2).mono ?_;rintro e w9⟨rfl,fn,fg,fv,f0,cv⟩;have V:=aa cv;clear cv;generalize ahl C l (X.ix M)=Z at *;obtain⟨A9,c9,rfl⟩:=V.rows.ins.slice;obtain⟨y,E,I,F,J,U,O,Q⟩:=V.cells;obtain⟨f1,f2,f3,f4,f5,f6,f7⟩:=V.ww;obtain⟨z,hz⟩:∃z,Z.ins.length=z:=⟨_,rfl⟩;have HZ:=aa hz;rw[hz]at J;clear hz y E I F O Q f1 f2 f3 f4 f6 f7;by_cases hi:50<z
      . have bs:=aa (V.lq 3);have ak:Hid (q9 Z=Z.lq 3):=aa (by unfold q9;rw[ao (by rw[HZ.out];exact hi)]);have b0:decide ((50:Int)<(z:Int))=true:=em (by omega);clear hi;go_wp2;go_ret;exact⟨by rw[b5.out];rfl,_,_,_,_,by rw[av.out,ak.out];exact bs⟩
      . have ak:Hid (q9 Z=Z):=aa (by unfold q9;rw[ah (by rw[HZ.out];exact hi)]);have b0:decide ((50:Int)<(z:Int))=false:=df (by omega);clear hi;go_wp2;go_ret;exact⟨by rw[b5.out];rfl,_,_,_,_,by rw[av.out,ak.out];exact V⟩
end
theorem aum{C:Ch}(J:Chk C){X:Se}(h:Okw C X)(z:Int)(m:Nat){Z:Se}(y:Z=⟨cm (cfN C X),(X.ix m).au,(X.ix m).env,(X.ix m).ins,(X.ix m).st,(X.ix m).out⟩){l:List Int}(I:l=mz C z X) :
 (∀x∈l,∃j:Nat,x=(j:Int)/\j<C.ay.length)/\l.length<=24/\tf C.ab (cm (bset Z.a C.ab.length))/\
 (∀s,s<(acU C.ay l l.length (lvS C.ab (ldD C (bset Z.a C.ab.length) l) Z)).au.length->zy C.ab (acU C.ay l l.length (lvS C.ab (ldD C (bset Z.a C.ab.length) l) Z)).au s)/\
 aq2 C l Z=ahl C l (X.ix m):=by
 have d:=gr J.chk;have E:∀x∈l,∃j:Nat,x=(j:Int)/\j<C.ay.length:=λx Y=>yo (aw4 C z X x (I▸Y));have Q:Z.a=cm (cfN C X):=by rw[y]
 have ad:Z.au=X.au:=by rw[y];rfl
 have U:bset Z.a C.ab.length=cfN C X:=by rw[Q];exact ax6
 have F:=aqt d l (X:=⟨cm (cfN C X),X.au,(X.ix m).env,(X.ix m).ins,(X.ix m).st,(X.ix m).out⟩) h.wb h.snd;have O:Z=⟨cm (cfN C X),X.au,(X.ix m).env,(X.ix m).ins,(X.ix m).st,(X.ix m).out⟩:=by rw[y];rfl
 rw[<-O]at F;have W:(acU C.ay l l.length (lvS C.ab (ow C (bset Z.a C.ab.length) l C.ay.length) Z)).au=(o8 C l Z).au:=by rw[tj,yw];unfold lvS;rw[qw];rfl
 have V:adj C.ab (o8 C l Z).au:=(ac7 d F.2).1;refine⟨E,by rw[I];exact a6 (aco C z X) d.len,by rw[U];exact h.wb,?_,?_⟩
 . rw[a4b E,W];exact F.2
 . rw[a2n d E V,a2k (C:=C) (X:=X.ix m) h.hl l,y];rfl
theorem bbh(env:List Int)(d:Int)(R:List Tr)(l:List Int)(n:Nat):(yt env d R l n).1=-1\/0<=(yt env d R l n).1:=by
 by_cases h:(yt env d R l n).1=-1
 . exact .inl h
 . exact .inr (ac1.1 (avp env d R l n h).1).1
theorem bbg(env:List Int)(d:Int)(s:Int)(R:List Tr)(n:Nat):(zb env d s R 0 n).1=-1\/0<=(zb env d s R 0 n).1:=by
 by_cases h:(zb env d s R 0 n).1=-1
 . exact .inl h
 . exact .inr (ac1.1 (api env d s R R 0 n (λj t h=>by rwa [j2]) h).1).1
def abz(env:List Int)(z:Int)(R:List Tr)(y:Int)(d:Nat)(rest:List Int)(f:Int)(q:Nat):Prop :=
 (f=-1/\yt env z R rest q=(y,d))\/(0<=f/\f=y/\q=d)
theorem abz.start{env:List Int}{d:Int}{R:List Tr}{y:Int}{E q:Nat}{l:List Int}(h:yt env d R l 0=(y,E)):abz env d R y (q+E) l (-1) q:=by have z:=axt env d R l q 0;rw[iy,h]at z;exact .inl ⟨rfl,z⟩
theorem abz.step{env:List Int}{d:Int}{R:List Tr}{y:Int}{F q:Nat}{s:Int}{r:List Int}{i:Int}{m:Nat}(h:abz env d R y F (s::r) (-1) q)(E:zb env d s R 0 0=(i,m)):abz env d R y F r i (q+m):=by
 rcases h with ⟨_,h⟩ | ⟨h,_⟩
 . rw[yt,show q=q+0 from rfl,ajp,E]at h;simp only at h;by_cases z:i=-1
   . rw[ao z]at h;exact .inl ⟨z,h⟩
   . rw[ah z]at h;injection h with I J;have:=bbg env d s R 0;rw[E]at this;exact .inr ⟨this.resolve_left z,I,J⟩
 . omega
theorem abz.stop{env:List Int}{F:Int}{R:List Tr}{y:Int}{E q:Nat}{f:Int}(h:abz env F R y E [] f q):f=y/\q=E:=by
 rcases h with ⟨d,h⟩ | ⟨_,d,z⟩
 . rw[yt]at h;injection h with z I;exact⟨by omega,I⟩
 . exact⟨d,z⟩
theorem abz.found{env:List Int}{E:Int}{R:List Tr}{y:Int}{z q:Nat}{f:Int}{l:List Int}(h:abz env E R y z l f q)(I:0<=f):f=y/\q=z:=by
 rcases h with ⟨d,_⟩ | ⟨_,d,F⟩
 . omega
 . exact⟨d,F⟩
theorem a8a(acc:List Int)(y:Int)(h:y=-1\/0<=y):uw acc y=if (decide (y<0)||acc.contains y)=true then acc else acc ++ [y]:=by
 unfold uw;have:(y=-1\/acc.contains y=true)↔(decide (y<0)||acc.contains y)=true:=by
  rw[im,decide_eq_true_iff];constructor
  . rintro(h | h)
    . exact .inl (by omega)
    . exact .inr h
  . rintro(h | h)
    . exact .inl (by omega)
    . exact .inr h
 by_cases d:y=-1\/acc.contains y=true
 . rw[ao d,ao (this.1 d)]
 . rw[ah d,ah (λh=>d (this.2 h))]
theorem arb(n:Nat)(vs vt ve:Value)(E:Int)(C:Ch)(env:List Int)(w:ω)(hC:d8 w vs vt C)(hF:fewB C=true)(ba:l1 C.ab)(hn:n<4294967296)(hE:fe w ve env)(h1:env.length<=1000)(f6:∀x∈env,uj x) :
 Calls prog 112 #[.agg #[ι C.vars,vs,vt],.int .u32 (n:Int),ve,ι E] w (a6m (gaL C env E n) w):=by
 obtain⟨i0,HI,cl,co,cv⟩:=ιp Tryz.info3;obtain⟨sA,bf,rA,bb,rfl,rfl⟩:=hC.slices;have io:=ba.len;have hh:=aa (λ(W:ω)(h:κ w W)=>aq9 n _ _ C W (hC.below h) (by omega) hn);have ho:=aa (λ(W:ω)(h:κ w W)(s:Nat)(hs:s<C.ab.length)=>akh C.vars _ _ C s W (hC.below h) (by omega) hs);have g4:=aa (λ(W:ω)(h:κ w W)(s:Int)=>auv _ _ ve s E C env W (hC.below h) hF (hE.below h) h1 f6);have fa:=aa (λx(h:x∈lvL C.ab n)=>afs (axj ba h));have hd:=aa (λx(h:x∈lvL C.ab n)=>fq (a34 h));have ht:=aa (λs=>an7 ba s);have hi:=aa (λs=>ahs env E ba hF s);have hl:=aa (λs=>a6 (aph env E s C.ay 0 0) (by have:=(fx hF).2.1;omega:0+C.ay.length<=60));have it:(lvL C.ab n).length<=24:=a6 (adu C.ab n _) ba.len;have HX:∃X,X=gaL C env E n:=⟨_,rfl⟩;obtain⟨X,hX⟩:=HX;rw[<-hX];have HX:Hid (X=(lvL C.ab n).foldl (la C env E) ([],0)):=aa hX;generalize lvL C.ab n=l at *;clear hC hF ba hE f6 hX;go_enter func112,ntmps112;go_wp2_with fail;refine(hh _ (ap _ _)).mono ?_;rintro e Z⟨ek,vl,rfl,gb⟩;have b9:=aa ek;have am:=aa (aj ek);obtain⟨A,gu,rfl,il,he⟩:=dc gb;have HE:=aa he;clear ek gb he;go_wp2_with fail;go_loopw [10,11,13] (λv m i wr=>∃(k q:Nat)(d:List Int),k<=l.length/\q<=k*1500/\d.length<=k/\i=ι (k:Int)/\m=ι (q:Int)/\Hid (X=(l.drop k).foldl (la C env E) (d,q))/\κ Z wr/\Hid (wr.ownsRow Z.heap.size 3 1 v d.length (bg d))) (λ_ _ i _=>l.length-(intOf i).toNat)
 case atStart=>exact ⟨0,0,[],ar _,ar _,ar _,rfl,rfl,HX,ag _ _,aa (bd _ _ _ _)⟩
 case round =>
  obtain⟨k,q,d,hk,hq,ih,rfl,rfl,HX,hb,ex⟩:=hrel;obtain⟨V,rfl⟩:∃V:ω,V=wr:=⟨_,rfl⟩;have gx:=aa hb;by_cases b3:k<l.length
  . obtain⟨oA,dy,e5,_,_⟩:=dc ex.out;subst e5;obtain⟨b,o,rfl,hx,hc⟩:=HE.out k _ (ae b3);have a9:Hid (X=(l.drop (k+1)).foldl (la C env E) (la C env E (d,q) l[k])):=aa (HX.trans (nf _ l k b3 _));have hm:=aa (fa l[k] (bw b3));have e4:0<(wx C.ab l[k]).length:=(bo.1 (fa l[k] (bw b3))).1;have e6:=ht.out l[k];have h9:(wx C.ab l[k]).length<=24:=(by unfold vu at e6;rw[bm]at e6;omega);have eb:Hid (vu C.ab l[k]=[l[k]]++wx C.ab l[k]):=aa rfl;have h5:=hi.out l[k];have e9:Hid (la C env E (d,q) l[k]=(uw d (yt env E C.ay (vu C.ab l[k]) 0).1,q+(yt env E C.ay (vu C.ab l[k]) 0).2)):=aa rfl;have f3:=aa (bbh env E C.ay (vu C.ab l[k]) 0);have f2:Hid (yt env E C.ay (vu C.ab l[k]) 0=((yt env E C.ay (vu C.ab l[k]) 0).1,(yt env E C.ay (vu C.ab l[k]) 0).2)):=aa rfl;rw[e9.out]at a9;obtain⟨I,gi,h7⟩:=hd.out l[k] (bw b3);rw[gi]at hc a9 hm e4 e6 h9 eb h5 e9 f3 f2;generalize (yt env E C.ay (vu C.ab (I:Int)) 0).1=y at *;generalize (yt env E C.ay (vu C.ab (I:Int)) 0).2=yn at *;have ad:Hid (∀W,κ Z W->(W.cell? (δ w.heap.size 0)=some (ι C.vars)/\W.cell? (δ w.heap.size 1)=some (.slice sA C.ab.length bf)/\W.cell? (δ w.heap.size 2)=some (.slice rA C.ay.length bb))/\W.cell? (δ b (o+k))=some (ι (I:Int))):=aa λW h=>⟨bc (b9.trans (h.mono b9.size)),by have:=d7.keeps Z W b _ _ h hx hc;rwa [bq]at this⟩;have O:=aa hb.drew;have f0:=aa (λ(W:ω)(h:κ Z W)=>ho W (am.trans (h.mono am.size)) I h7);have hy:Z.heap.size<=V.drew.heap.size:=O.size;have d4:=aa (bl ex.out (ag _ V).drew);generalize wx C.ab (I:Int)=up at *;generalize vu C.ab (I:Int)=U at *;clear hc hb gi;go_wp2_with fail;refine cr (λW=>(W.cell? (δ w.heap.size 0)=some (ι C.vars)/\W.cell? (δ w.heap.size 1)=some (.slice sA C.ab.length bf)/\W.cell? (δ w.heap.size 2)=some (.slice rA C.ay.length bb))/\W.cell? (δ b (o+k))=some (ι (I:Int))) [] ?_;refine af 0 (.slice (some (δ b o)) l.length gu) ?_;refine af 1 (ι (k:Int)) ?_;refine af 2 (φ b (o+k)) ?_;refine a7 3 (ι (I:Int)) (ad _ O) ?_;refine a7 5 (.agg #[ι C.vars,.slice sA C.ab.length bf,.slice rA C.ay.length bb]) (ad _ O) ?_;refine af 6 (.slice (some (δ b o)) l.length gu) ?_;refine af 7 (ι (k:Int)) ?_;refine af 8 (φ b (o+k)) ?_;refine a7 9 (ι (I:Int)) (ad _ O) ?_;try simp only[Act.put,sx]
    refine t8 4 10 (λK Y=>?orderA) (λK Y=>?orderB)
    case' orderA =>
     go_simp;refine Y _ _ (λ_ hS=>ad _ (O.alloc O.size _)) ?_;try simp only[Act.put,sx]
     refine a8 10 (λK Y=>?_);go_simp;refine(f0 _ (O.alloc O.size _)).mono ?_;rintro e w3⟨ak,v3,rfl,a4⟩;have b8:=aa ((O.alloc O.size (.cells #[ι (I:Int)] 3)).trans (ak.mono (O.alloc O.size _).size));have d3:=aa (bl (ajj V.drew (ι (I:Int)) 3) ak);have d5:=aa (bl (d4.alloc (.cells #[ι (I:Int)] 3)) ak);have d1:Hid ((Value.slice oA d.length dy).ownBlock=none\/(Value.slice oA d.length dy).ownBlock≠(Value.slice (some (δ V.drew.heap.size 0)) 1 1).ownBlock):=aa (.inr λh=>by have:=(d4.lt V.drew.heap.size (h.trans rfl)).2;omega);have b0:Hid (V.drew.heap.size<=w3.heap.size):=aa (a6 (by simp) ak.size);have bt:Hid (Z.heap.size<=V.drew.heap.size):=aa hy;clear ak;rcases a4.2 with ⟨_,hz⟩ | ⟨g3,eg,hw,rfl,h3,el,h0,er,e0,e2⟩
     . exact absurd e4 (by omega)
     have d0:=aa a4;clear a4 el e2 er e0;go_simp;refine Y _ _ (λ_ hS=>ad _ b8) ?_;try simp only[Act.put,sx]
     refine a8 11 (λK Y=>?_);refine kw _ _ 36 rfl (V.drew.heap.size) 3 i0 (ι 0) 1 8 underlying36 HI cl co cv rfl (by decide) _ _ _ rfl d3 (δ g3 0) up.length eg (bg up) rfl (by simp[bg]) (λj u hj=>by rw[yu];simpa using m6 d0 j u hj) (λu hu=>by obtain ⟨x,_,rfl⟩:=gt.1 hu;rfl) (by unfold maxLen;omega) (by omega) (by have:=b0.out;omega) ?_;intro v4 w4 b7 a3 _;have b1:∀b,(Value.slice (some (δ V.drew.heap.size 0)) 1 1).ownBlock=some b->V.drew.heap.size<=b:=λb hb=>by have h:some (V.drew.heap.size)=some b:=hb;injection h with h;omega
     have al:=aa (ck b8 a3 (by have:=b0.out;have:=bt.out;omega) (λb hb=>a6 bt (b1 b hb)));have fu:=aa (d5.kept a3 d1);have f1:Hid (dd w4 v4 U):=aa (dc (B:=V.drew.heap.size) (by rw[eb.out,aw];simpa [bg] using b7));clear b7 a3 b1;refine Y _ _ (λ_ hS=>ad _ al) ?_;try simp only[Act.put,sx]
     refine af 12 v4 ?_;try simp only[Act.put,sx]
     refine ce ?_
    case' orderB =>
     go_simp;refine(f0 _ O).mono ?_;rintro e w3⟨ak,v3,rfl,a4⟩;have a5:=aa (O.trans (ak.mono O.size));have fn:=aa (bl d4 ak);rcases a4.2 with ⟨_,hz⟩ | ⟨g3,eg,hw,rfl,h3,el,h0,er,e0,e2⟩
     . exact absurd e4 (by omega)
     have d0:=aa (a4.alloc (.cells #[ι (I:Int)] 3));clear a4 el e2 er e0 ak;go_simp;refine Y _ _ (λ_ hS=>ad _ a5) ?_;try simp only[Act.put,sx]
     refine a8 4 (λK Y=>?_);go_simp;refine Y _ _ (λ_ hS=>ad _ (a5.alloc a5.size _)) ?_;try simp only[Act.put,sx]
     have b8:=aa (a5.alloc a5.size (.cells #[ι (I:Int)] 3));have d3:=aa (ajj w3 (ι (I:Int)) 3);have d5:=aa (fn.alloc (.cells #[ι (I:Int)] 3));have d1:Hid ((Value.slice oA d.length dy).ownBlock=none\/(Value.slice oA d.length dy).ownBlock≠(Value.slice (some (δ w3.heap.size 0)) 1 1).ownBlock):=aa (.inr λh=>by have:=(fn.lt w3.heap.size (h.trans rfl)).2;omega);have b0:Hid (w3.heap.size<=(w3.alloc (.cells #[ι (I:Int)] 3)).heap.size):=aa (by simp);have bt:Hid (Z.heap.size<=w3.heap.size):=aa a5.size;refine a8 11 (λK Y=>?_);refine kw _ _ 36 rfl (w3.heap.size) 3 i0 (ι 0) 1 8 underlying36 HI cl co cv rfl (by decide) _ _ _ rfl d3 (δ g3 0) up.length eg (bg up) rfl (by simp[bg]) (λj u hj=>by rw[yu];simpa using m6 d0 j u hj) (λu hu=>by obtain ⟨x,_,rfl⟩:=gt.1 hu;rfl) (by unfold maxLen;omega) (by omega) (by have:=b0.out;omega) ?_;intro v4 w4 b7 a3 _;have b1:∀b,(Value.slice (some (δ w3.heap.size 0)) 1 1).ownBlock=some b->w3.heap.size<=b:=λb hb=>by have h:some (w3.heap.size)=some b:=hb;injection h with h;omega
     have al:=aa (ck b8 a3 (by have:=b0.out;have:=bt.out;omega) (λb hb=>a6 bt (b1 b hb)));have fu:=aa (d5.kept a3 d1);have f1:Hid (dd w4 v4 U):=aa (dc (B:=w3.heap.size) (by rw[eb.out,aw];simpa [bg] using b7));clear b7 a3 b1;refine Y _ _ (λ_ hS=>ad _ al) ?_;try simp only[Act.put,sx]
     refine af 12 v4 ?_;try simp only[Act.put,sx]
     refine ce ?_
    all_goals (
     have e7:=aa (am.trans (al.mono am.size))
     obtain⟨wA,ib,rfl,i4,gl⟩:=f1.out
     have hr:=aa gl
     clear gl
     go_wp2_with fail
     go_loopw [11,15,16] (λmv fv jv wr=>∃(j J:Nat)(f:Int),j<=U.length/\J<=q+j*60/\jv=ι (j:Int)/\mv=ι (J:Int)/\fv=ι f/\Hid (abz env E C.ay y (q+yn) (U.drop j) f J)/\κ w4 wr) (λ_ _ jv _=>U.length-(intOf jv).toNat)
     case atStart=>exact ⟨0,q,-1,ar _,by omega,rfl,rfl,rfl,aa (abz.start f2),ag _ _⟩
     case round =>
      obtain⟨j,J,f,hj,ix,rfl,rfl,rfl,cc,f4⟩:=hrel
      obtain⟨wp,rfl⟩:∃wp:ω,wp=wr:=⟨_,rfl⟩
      have HB:=aa f4
      have gv:=aa (λ(W:ω)(h:κ w4 W)=>e7.trans (h.mono e7.size))
      clear f4
      by_cases f8:j<U.length/\f<0
      . obtain⟨ds,hf⟩:=f8
        have db:decide (f<0)=true:=by simpa using hf
        have f7:Hid (f=-1):=aa (by
         rcases cc.out with ⟨h,_⟩ | ⟨h,_⟩
         . exact h
         . omega)
        obtain⟨wb,wf,rfl,h8,gk⟩:=hr.out j _ (ae ds)
        have hp:Hid (U.drop j=U[j]::U.drop (j+1)):=aa (bp ds)
        generalize U[j]=x at *
        have d6:Hid (∀W,κ w4 W->(W.cell? (δ w.heap.size 0)=some (ι C.vars)/\W.cell? (δ w.heap.size 1)=some (.slice sA C.ab.length bf)/\W.cell? (δ w.heap.size 2)=some (.slice rA C.ay.length bb))/\W.cell? (δ wb (wf+j))=some (ι x)):=aa λW h=>⟨bc (b9.trans ((al.trans (h.mono al.size)).mono b9.size)),by have:=d7.keeps w4 W wb _ _ h h8 gk;rwa [bq]at this⟩
        have f9:=hl.out x
        obtain⟨i1,m1,c7⟩:∃i1 m1,zb env E x C.ay 0 0=(i1,m1):=⟨_,_,rfl⟩
        rw[c7]at f9
        simp only at f9
        have ha:=aa c7
        have hv:=aa (abz.step (by have:=cc.out;rw[hp.out,f7.out]at this;exact this) c7)
        clear c7 gk hf f7
        go_wp2_with fail
        refine cr (λW=>(W.cell? (δ w.heap.size 0)=some (ι C.vars)/\W.cell? (δ w.heap.size 1)=some (.slice sA C.ab.length bf)/\W.cell? (δ w.heap.size 2)=some (.slice rA C.ay.length bb))/\W.cell? (δ wb (wf+j))=some (ι x)) [] ?_
        have bs:=aa HB.drew
        refine a7 0 (.agg #[ι C.vars,.slice sA C.ab.length bf,.slice rA C.ay.length bb]) (d6 _ bs) ?_
        refine af 1 (.slice (some (δ wb wf)) U.length ib) ?_
        refine af 2 (ι (j:Int)) ?_
        refine af 3 (φ wb (wf+j)) ?_
        refine a7 4 (ι x) (d6 _ bs) ?_
        refine af 5 ve ?_
        refine af 6 (ι E) ?_
        try simp only[Act.put,sx]
        refine a8 7 (λK Y=>?_)
        go_simp
        refine(g4 _ (gv _ bs) x).mono ?_
        rintro e w6⟨rfl,f5⟩
        rw[ha.out]
        have e8:=aa (bs.trans (f5.mono bs.size))
        clear f5
        go_simp
        refine Y _ _ (λ_ hS=>d6 _ e8) ?_
        try simp only[Act.put,sx]
        refine af 8 (.tuple #[ι i1,ι (m1:Int)]) ?_
        refine af 9 (ι i1) ?_
        refine af 10 (ι (m1:Int)) ?_
        refine af 11 (ι i1) ?_
        refine af 12 (ι (m1:Int)) ?_
        try simp only[Act.put,sx]
        refine ce ?_
        go_wp2
        go_roundw
        case rel=>exact ⟨j+1,J+m1,i1,by omega,by omega,by go_num,by go_num,rfl,hv,e8⟩
        case measure=>simp[intOf];omega
      . have ca:Hid (f=y/\J=q+yn):=aa (by
         by_cases hf:0<=f
         . exact cc.found hf
         . obtain rfl:j=U.length:=by omega
           have:=cc.out
           rw[bz]at this
           exact this.stop)
        have i2:J<=q+1500:=by have:=ca.2;omega
        have db:j<U.length->decide (f<0)=false:=λh=>by simp;omega
        have ax:=aa (bl fu HB)
        have av:=aa (al.trans (HB.mono al.size))
        have gs:f=-1\/0<=f:=by rw[ca.out.1];exact f3
        have ci:Hid (X=(l.drop (k+1)).foldl (la C env E) (uw d f,J)):=aa (by rw[a9.out,ca.out.1,ca.out.2])
        have cb:=aa (a8a d f gs)
        obtain⟨i5,i9,e5,iv,gg⟩:=dc ax
        injection e5 with e1 _ e3
        subst e1;subst e3
        have fg:=aa gg
        have i3:Z.heap.size<=wp.heap.size:=av.size
        clear gg gs f8
        by_cases ds:j<U.length
        . have h2:=db ds
          have g0:Hid (0<=f):=aa (by simpa using h2)
          clear db
          go_wp2_with fail
          go_loopw [19,20] (λmv jv wr=>∃(j:Nat),j<=d.length/\jv=ι (j:Int)/\mv=.bool (decide (f<0)||(d.take j).contains f)/\wr=wp) (λ_ jv _=>d.length-(intOf jv).toNat)
          case atStart=>exact ⟨0,ar _,rfl,by simp;exact g0,rfl⟩
          case round =>
           obtain⟨F,h4,rfl,rfl,rfl⟩:=hrel
           by_cases b4:F<d.length
           . obtain⟨ob,of,rfl,h6,b5⟩:=fg.out F _ (ae b4)
             have c0:wr.cell? (δ ob (of+F))=some (ι d[F]):=by have:=b5;unfold d7 at this;rwa [bq]at this
             have a0:=aa (afy d f b4)
             generalize d[F]=z at *
             obtain⟨B',a2⟩:∃B',(d.take (F+1)).contains f=B':=⟨_,rfl⟩
             rw[a2]at a0
             have bk:=aa a2
             clear a2
             generalize (d.take F).contains f=B at *
             generalize decide (f<0)=D at *
             clear b5
             cases Q:(D||B) with
             | true =>
              have HN:Hid ((D||B')=true):=aa (by rw[a0.out];cases D<;>cases B<;>simp_all)
              clear Q
              go_wp2
              go_roundw
              case rel=>exact ⟨F+1,by omega,by go_num,by rw[bk.out,HN.out],trivial⟩
              case measure=>simp[intOf];omega
             | false =>
              have HN:Hid ((D||B')=(z==f)):=aa (by rw[a0.out];cases D<;>cases B<;>simp_all)
              clear Q
              go_wp2
              go_roundw
              case rel=>exact ⟨F+1,by omega,by go_num,by rw[bk.out,HN.out],trivial⟩
              case measure=>simp[intOf];omega
           . obtain rfl:F=d.length:=by omega
             rw[ed]
             cases Q:(decide (f<0)||d.contains f) with
             | true =>
              have a1:Hid (X=(l.drop (k+1)).foldl (la C env E) (d,J)):=aa (by rw[ci.out,cb.out,ao Q])
              clear Q
              go_wp2
              go_roundw
              case rel=>exact ⟨k+1,J,d,by omega,by omega,by omega,by go_num,rfl,a1,av,ax⟩
              case measure=>simp[intOf];omega
             | false =>
              have a1:Hid (X=(l.drop (k+1)).foldl (la C env E) (d ++ [f],J)):=aa (by rw[ci.out,cb.out,ah (by rw[Q];simp)])
              clear Q
              go_wp2_with (at_builtin;refine wpList_append_own_at _ rfl _ _ 36 rfl (Z.heap.size) 3 i0 (ι 0) 1 8 underlying36 HI cl co cv rfl (by decide) _ _ _ rfl (ax.alloc _) (δ wr.heap.size 0) 1 1 [ι f] rfl rfl ?c1 ?c2 ?c3 ?c4 ?c5 ?_)
              case c1=>exact g8 _ _ _ _ (by simp)
              case c2=>exact fl _
              case c3=>unfold maxLen;omega
              case c4=>omega
              case c5=>simp;omega
              intro v' w7 b6 b2 _ _
              have HG:=aa (ck (B:=Z.heap.size) (av.alloc av.size _) b2 (by simp;omega) (λg hg=>by have:=(ax.lt g hg).1;simpa using this))
              have d2:=aa b6
              clear b6 b2
              go_wp2
              go_roundw
              case rel=>exact ⟨k+1,J,d ++ [f],by omega,by omega,by simp;omega,by go_num,rfl,a1,HG,aa (by rw[dp];simpa using d2.out)⟩
              case measure=>simp[intOf];omega
        . clear db
          go_wp2_with fail
          go_loopw [19,20] (λmv jv wr=>∃(j:Nat),j<=d.length/\jv=ι (j:Int)/\mv=.bool (decide (f<0)||(d.take j).contains f)/\wr=wp) (λ_ jv _=>d.length-(intOf jv).toNat)
          case atStart=>exact ⟨0,ar _,rfl,by simp,rfl⟩
          case round =>
           obtain⟨F,h4,rfl,rfl,rfl⟩:=hrel
           by_cases b4:F<d.length
           . obtain⟨ob,of,rfl,h6,b5⟩:=fg.out F _ (ae b4)
             have c0:wr.cell? (δ ob (of+F))=some (ι d[F]):=by have:=b5;unfold d7 at this;rwa [bq]at this
             have a0:=aa (afy d f b4)
             generalize d[F]=z at *
             obtain⟨B',a2⟩:∃B',(d.take (F+1)).contains f=B':=⟨_,rfl⟩
             rw[a2]at a0
             have bk:=aa a2
             clear a2
             generalize (d.take F).contains f=B at *
             generalize decide (f<0)=D at *
             clear b5
             cases Q:(D||B) with
             | true =>
              have HN:Hid ((D||B')=true):=aa (by rw[a0.out];cases D<;>cases B<;>simp_all)
              clear Q
              go_wp2
              go_roundw
              case rel=>exact ⟨F+1,by omega,by go_num,by rw[bk.out,HN.out],trivial⟩
              case measure=>simp[intOf];omega
             | false =>
              have HN:Hid ((D||B')=(z==f)):=aa (by rw[a0.out];cases D<;>cases B<;>simp_all)
              clear Q
              go_wp2
              go_roundw
              case rel=>exact ⟨F+1,by omega,by go_num,by rw[bk.out,HN.out],trivial⟩
              case measure=>simp[intOf];omega
           . obtain rfl:F=d.length:=by omega
             rw[ed]
             cases Q:(decide (f<0)||d.contains f) with
             | true =>
              have a1:Hid (X=(l.drop (k+1)).foldl (la C env E) (d,J)):=aa (by rw[ci.out,cb.out,ao Q])
              clear Q
              go_wp2
              go_roundw
              case rel=>exact ⟨k+1,J,d,by omega,by omega,by omega,by go_num,rfl,a1,av,ax⟩
              case measure=>simp[intOf];omega
             | false =>
              have a1:Hid (X=(l.drop (k+1)).foldl (la C env E) (d ++ [f],J)):=aa (by rw[ci.out,cb.out,ah (by rw[Q];simp)])
              clear Q
              go_wp2_with (at_builtin;refine wpList_append_own_at _ rfl _ _ 36 rfl (Z.heap.size) 3 i0 (ι 0) 1 8 underlying36 HI cl co cv rfl (by decide) _ _ _ rfl (ax.alloc _) (δ wr.heap.size 0) 1 1 [ι f] rfl rfl ?c1 ?c2 ?c3 ?c4 ?c5 ?_)
              case c1=>exact g8 _ _ _ _ (by simp)
              case c2=>exact fl _
              case c3=>unfold maxLen;omega
              case c4=>omega
              case c5=>simp;omega
              intro v' w7 b6 b2 _ _
              have HG:=aa (ck (B:=Z.heap.size) (av.alloc av.size _) b2 (by simp;omega) (λg hg=>by have:=(ax.lt g hg).1;simpa using this))
              have d2:=aa b6
              clear b6 b2
              go_wp2
              go_roundw
              case rel=>exact ⟨k+1,J,d ++ [f],by omega,by omega,by simp;omega,by go_num,rfl,a1,HG,aa (by rw[dp];simpa using d2.out)⟩
              case measure=>simp[intOf];omega)
  . obtain rfl:k=l.length:=(by omega);have a9:Hid (X=(d,q)):=aa (by rw[HX.out,bz,dv]);have HB:=aa (am.trans (gx.mono am.size));go_wp2;go_ret2;refine⟨HB,_,by rw[a9.out]<;>rfl,by rw[a9.out];exact fp ex.out am.size⟩
end Go.Proofs.YtpekhdfmmkmjaaaGreatDoor
