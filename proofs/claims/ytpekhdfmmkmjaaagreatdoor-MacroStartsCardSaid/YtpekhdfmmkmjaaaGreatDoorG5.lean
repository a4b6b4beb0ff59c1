/- Texts of the proof, put together. -/
import Derived.Deep.DrawnRows
import Derived.Test.YtpekhdfmmkmjaaaGreatDoorG4
namespace Go.Proofs.YtpekhdfmmkmjaaaGreatDoor
set_option maxHeartbeats 8000000
set_option maxRecDepth 100000
set_option linter.unusedVariables false
open Go.Proofs.Tryz
open Go.ChangeShapes Go.WideShapes Go.ChangeAt Go.RowKit
theorem l2{d:Func}{r:Tmp}{ty:TypeId}{cs:Array Value}(F:d.results=#[.cell r ty])(z:Array Value)(w:ω)(g:Nat)(y:z.getD r undef=φ g 0)(E:(loadVar ty (δ g 0)).run prog w=.ok (.agg cs) w) :
 (results d z).run prog w=.ok (.agg cs) w:=by
 simp at y;simp[results,F,y,asAddr,E]
theorem axi{w:ω}{g:Nat}{a b c:Value}(d:cg w g 25 #[a,b,c]):(loadVar 25 (δ g 0)).run prog w=.ok (.agg #[a,b,c]) w:=run_loadVar_row (P:=prog) w g 25 25 _ (0,0) _ d underlying25 rfl (by kernel_rfl)
def awr(C:Ch)(w:ω)(e:Ending)(y:ω):Prop:=κ w y/\∃vs d,e=.returned (.agg #[ι C.vars,vs,d])/\th w.heap.size y vs d C
theorem ni.slice{w:ω}{n:Nat}{v:Value}{d:Nat}{z:List Value}(h:ni w n v d z):∃A cap,v=.slice A d cap:=by
 obtain⟨_,⟨c,rfl,rfl⟩ | ⟨y,cap,rfl,_⟩⟩:=h
 . exact⟨none,c,rfl⟩
 . exact⟨some y,cap,rfl⟩
theorem ni.below{w J:ω}{n:Nat}{v:Value}{F:Nat}{I:List Value}(h:ni w n v F I)(V:κ w J):ni J n v F I:=by
 obtain⟨z,⟨c,y,d⟩ | ⟨O,Q,y,d,U⟩⟩:=h
 . exact⟨z,.inl ⟨c,y,d⟩⟩
 . exact⟨z,.inr ⟨O,Q,y,λj u E=>(V.cell (Lib.lt_of_cell (d j u E))).trans (d j u E),U⟩⟩
theorem sd{w:ω}{B e n y:Nat}{v:Value}{xs:List Value}(h:w.ownsRow B e n v y xs):∃A cap,v=.slice A y cap:=by
 rcases h.2 with ⟨d,z⟩ | ⟨g,cap,E,d,_⟩
 . exact⟨none,0,by rw[d,z]⟩
 . exact⟨_,_,d⟩
theorem ap2{w:ω}{g g':Nat}{t y:TypeId}{cs z:Array Value}(h:cg w g t cs)(d:cg w g' y z)(I:t≠y):g≠g':=by intro F;subst F;unfold cg at h d;rw[h]at d;injection d with d;injection d with _ E;exact I E
theorem cg.db{w:ω}{g g':Nat}{t:TypeId}{cs:Array Value}(h:cg w g t cs)(d:g≠g')(j:Nat)(u:Value):cg (w.setCell (δ g' j) u) g t cs:=(cz w (δ g' j) u g d).trans h
def sm(y w:ω)(v:Value)(S:List St)(k:Nat):Prop:=∃d:List zt,d.map (λr=>r.1)=S/\cu y.heap.size w 59 5 kl v d/\∀i r,d[i]?=some r->(i<k->aqb y.heap.size w r)/\(k<=i->aaz y r.2.1 r.2.2.1 r.2.2.2 r.1)
def sl(y w:ω)(v:Value)(S:List Tr)(k:Nat):Prop:=∃d:List zr,d.map (λr=>r.1)=S/\cu y.heap.size w 62 6 jx v d/\∀i r,d[i]?=some r->(i<k->aqc y.heap.size w r)/\(k<=i->wc y r.2.1 r.2.2 r.1)
theorem sm.below{F w E:ω}{v:Value}{S:List St}{k:Nat}(h:sm F w v S k)(y:κ w E):sm F E v S k:=by obtain ⟨Q,I,J,d⟩:=h;exact⟨Q,I,J.below y,λi r z=>⟨λO=>((d i r z).1 O).below y,(d i r z).2⟩⟩
theorem sl.below{F w E:ω}{v:Value}{S:List Tr}{k:Nat}(h:sl F w v S k)(y:κ w E):sl F E v S k:=by obtain ⟨Q,I,J,d⟩:=h;exact⟨Q,I,J.below y,λi r z=>⟨λO=>((d i r z).1 O).below y,(d i r z).2⟩⟩
theorem sm.apart{E w:ω}{v:Value}{S:List St}{k g t:Nat}{cs:Array Value}(h:sm E w v S k)(d:cg w g t cs)(F:3≠t)(I:92≠t)(J:59≠t)(j:Nat)(u:Value):sm E (w.setCell (δ g j) u) v S k:=by obtain ⟨V,Q,U,z⟩:=h;exact⟨V,Q,U.apart d J j u,λi r y=>⟨λO=>((z i r y).1 O).apart d F I j u,(z i r y).2⟩⟩
theorem sl.apart{E w:ω}{v:Value}{S:List Tr}{k g t:Nat}{cs:Array Value}(h:sl E w v S k)(d:cg w g t cs)(F:3≠t)(I:92≠t)(J:62≠t)(j:Nat)(u:Value):sl E (w.setCell (δ g j) u) v S k:=by obtain ⟨V,Q,U,z⟩:=h;exact⟨V,Q,U.apart d J j u,λi r y=>⟨λO=>((z i r y).1 O).apart d F I j u,(z i r y).2⟩⟩
theorem sm.slice{F w:ω}{v:Value}{S:List St}{k:Nat}(h:sm F w v S k):∃A cap,v=.slice A S.length cap:=by
 obtain⟨E,y,z,_⟩:=h;have d:E.length=S.length:=by rw[<-y,dm]
 rcases z with ⟨rfl,rfl⟩ | ⟨g,cap,I,rfl,_⟩
 . exact⟨none,0,by rw[<-d];rfl⟩
 . exact⟨_,cap,by rw[d]⟩
theorem sl.slice{F w:ω}{v:Value}{S:List Tr}{k:Nat}(h:sl F w v S k):∃A cap,v=.slice A S.length cap:=by
 obtain⟨E,y,z,_⟩:=h;have d:E.length=S.length:=by rw[<-y,dm]
 rcases z with ⟨rfl,rfl⟩ | ⟨g,cap,I,rfl,_⟩
 . exact⟨none,0,by rw[<-d];rfl⟩
 . exact⟨_,cap,by rw[d]⟩
theorem sm.start{d w:ω}{B:Nat}{v v':Value}{rs:List zt}(y:br 5 ap6 d v rs)(h:w.ownsRow B 59 5 v' rs.length (rs.flatMap kl))(z:d.heap.size<=B):sm d w v' (rs.map λr=>r.1) 0:=by refine ⟨rs,rfl,(cu.fg o9 h).lower z,λi r F=>⟨λI=>by omega,λ_=>?_⟩⟩;obtain⟨b,o,E⟩:=y.mem r (pk F);exact E.2
theorem sl.start{d w:ω}{B:Nat}{v v':Value}{rs:List zr}(y:br 6 ap5 d v rs)(h:w.ownsRow B 62 6 v' rs.length (rs.flatMap jx))(z:d.heap.size<=B):sl d w v' (rs.map λr=>r.1) 0:=by refine ⟨rs,rfl,(cu.fg sc h).lower z,λi r F=>⟨λI=>by omega,λ_=>?_⟩⟩;obtain⟨b,o,E⟩:=y.mem r (pk F);exact E.2
theorem sm.own{z w:ω}{v:Value}{S:List St}(h:sm z w v S S.length):∃rs:List zt,rs.map (λr=>r.1)=S/\aqa z.heap.size w v rs:=by obtain ⟨rs,d,E,F⟩:=h;refine⟨rs,d,E,λr I=>?_⟩;obtain⟨i,y⟩:=jp I;exact(F i r y).1 (by have:=(bo.1 y).1;rw[<-d,dm];exact this)
theorem sl.own{z w:ω}{v:Value}{S:List Tr}(h:sl z w v S S.length):∃rs:List zr,rs.map (λr=>r.1)=S/\ap9 z.heap.size w v rs:=by obtain ⟨rs,d,E,F⟩:=h;refine⟨rs,d,E,λr I=>?_⟩;obtain⟨i,y⟩:=jp I;exact(F i r y).1 (by have:=(bo.1 y).1;rw[<-d,dm];exact this)
theorem sm.at_{z w:ω}{v:Value}{S:List St}{k:Nat}(h:sm z w v S k)(hk:k<S.length):∃g cap V U O y,v=.slice (some (δ g 0)) S.length cap/\S.length<=cap/\cg w g 59 V/\z.heap.size<=g/\aaz z U O y (S.getD k pz)/\
 (w.cell? (δ g (k*5+2))=some U/\w.cell? (δ g (k*5+3))=some O/\w.cell? (δ g (k*5+4))=some y)/\
 (∀(F:ω)(a b c:Value),κ w F->oy z.heap.size F a (S.getD k pz).ip->pv z.heap.size F b (S.getD k pz).kv->pv z.heap.size F c (S.getD k pz).me->sm z (((F.setCell (δ g (k*5+2)) a).setCell (δ g (k*5+3)) b).setCell (δ g (k*5+4)) c) v S (k+1)):=by
 obtain⟨d,W,h2,Y⟩:=h;have hl:d.length=S.length:=by rw[<-W,dm]
 have J:=ae (l:=d) (i:=k) (by omega);generalize d[k]=r at J;have Z:S.getD k pz=r.1:=by rw[<-W];simp[List.getD,J]
 obtain⟨g,cap,V,rfl,hc,hB,hg,ad⟩:=h2.at_ J;obtain⟨s,U,O,y⟩:=r;simp only at Z;refine⟨g,cap,V,U,O,y,by rw[hl],by omega,hg,hB,by rw[Z];exact (Y k _ J).2 (ai _),⟨(ad 2 _ rfl).1,(ad 3 _ rfl).1,(ad 4 _ rfl).1⟩,λF a b c hb ha ak al=>?_⟩;rw[Z]at ha ak al;have Q:k<d.length:=by omega
 have e1:d.set k (s,a,b,c)=((d.set k (s,a,O,y)).set k (s,a,b,y)).set k (s,a,b,c):=by rw[List.set_set,List.set_set]
 have I:=hg.below hb hg.lt;have r1:=(h2.below hb).put (r':=(s,a,O,y)) (j:=2) (u:=a) o9 J (by decide) rfl;have r2:=r1.put (r':=(s,a,b,y)) (j:=3) (u:=b) o9 (ea Q) (by decide) rfl;have r3:=r2.put (r':=(s,a,b,c)) (j:=4) (u:=c) o9 (ea (by rw[mn];exact Q)) (by decide) rfl;rw[<-e1]at r3;refine⟨d.set k (s,a,b,c),?_,r3,λi r E=>?_⟩
 . rw[List.map_set,<-W];have:(d.map λr=>r.1)[k]?=some s:=(by rw[gw,J];rfl);exact lr λj=>by
    by_cases hj:j=k
    . subst hj;rw[this,ea (by rw[dm];exact Q)]
    . rw[gf (j1 hj)]
 . by_cases am:i=k
   . subst am;rw[ea Q]at E;injection E with E;subst E;refine⟨λ_=>?_,λh=>by omega⟩;have q:aqb z.heap.size F (s,a,b,c):=⟨ha,ak,al⟩;exact((q.apart I (by decide) (by decide) _ _).apart (I.ca _ _) (by decide) (by decide) _ _).apart ((I.ca _ _).ca _ _) (by decide) (by decide) _ _
   . rw[gf (j1 am)]at E;refine⟨λax=>?_,λav=>(Y i r E).2 (by omega)⟩;have q:=((Y i r E).1 (by omega)).below hb;exact((q.apart I (by decide) (by decide) _ _).apart (I.ca _ _) (by decide) (by decide) _ _).apart ((I.ca _ _).ca _ _) (by decide) (by decide) _ _
theorem sl.at_{z w:ω}{v:Value}{S:List Tr}{k:Nat}(h:sl z w v S k)(hk:k<S.length):∃g cap O vt F,v=.slice (some (δ g 0)) S.length cap/\S.length<=cap/\cg w g 62 O/\z.heap.size<=g/\wc z vt F (S.getD k mt)/\
 (w.cell? (δ g (k*6+3))=some vt/\w.cell? (δ g (k*6+5))=some F)/\
 (∀(I:ω)(a b:Value),κ w I->oy z.heap.size I a (S.getD k mt).cj->pv z.heap.size I b (S.getD k mt).acts->sl z ((I.setCell (δ g (k*6+3)) a).setCell (δ g (k*6+5)) b) v S (k+1)):=by
 obtain⟨d,Q,h2,U⟩:=h;have hl:d.length=S.length:=by rw[<-Q,dm]
 have E:=ae (l:=d) (i:=k) (by omega);generalize d[k]=r at E;have V:S.getD k mt=r.1:=by rw[<-Q];simp[List.getD,E]
 obtain⟨g,cap,O,rfl,hc,hB,Y,ak⟩:=h2.at_ E;obtain⟨s,vt,F⟩:=r;simp only at V;refine⟨g,cap,O,vt,F,by rw[hl],by omega,Y,hB,by rw[V];exact (U k _ E).2 (ai _),⟨(ak 3 _ rfl).1,(ak 5 _ rfl).1⟩,λI a b W ha ad=>?_⟩;rw[V]at ha ad;have Z:k<d.length:=by omega
 have e1:d.set k (s,a,b)=(d.set k (s,a,F)).set k (s,a,b):=by rw[List.set_set]
 have J:=Y.below W Y.lt;have r1:=(h2.below W).put (r':=(s,a,F)) (j:=3) (u:=a) sc E (by decide) rfl;have r2:=r1.put (r':=(s,a,b)) (j:=5) (u:=b) sc (ea Z) (by decide) rfl;rw[<-e1]at r2;refine⟨d.set k (s,a,b),?_,r2,λi r y=>?_⟩
 . rw[List.map_set,<-Q];have:(d.map λr=>r.1)[k]?=some s:=(by rw[gw,E];rfl);exact lr λj=>by
    by_cases hj:j=k
    . subst hj;rw[this,ea (by rw[dm];exact Z)]
    . rw[gf (j1 hj)]
 . by_cases al:i=k
   . subst al;rw[ea Z]at y;injection y with y;subst y;refine⟨λ_=>?_,λh=>by omega⟩;have q:aqc z.heap.size I (s,a,b):=⟨ha,ad⟩;exact(q.apart J (by decide) (by decide) _ _).apart (J.ca _ _) (by decide) (by decide) _ _
   . rw[gf (j1 al)]at y;refine⟨λav=>?_,λam=>(U i r y).2 (by omega)⟩;have q:=((U i r y).1 (by omega)).below W;exact(q.apart J (by decide) (by decide) _ _).apart (J.ca _ _) (by decide) (by decide) _ _
attribute [local go_sem ↓] Go.wp_at_zero Go.wp_at_succ
theorem av9(vs vt:Value)(C:Ch)(w:ω)(hC:d8 w vs vt C)(g0:C.ab.length<=1000)(g3:C.ay.length<=1000)(e8:∀k,k<C.ab.length->(C.ab.getD k pz).ip.length<=1000/\(C.ab.getD k pz).kv.length<=1000/\(C.ab.getD k pz).me.length<=1000)(bb:∀k,k<C.ay.length->(C.ay.getD k mt).cj.length<=1000/\(C.ay.getD k mt).acts.length<=1000) :
 Calls prog 21 #[.agg #[ι C.vars,vs,vt]] w (awr C w):=by
 obtain⟨rs,eg,ek⟩:=azt hC.1;obtain⟨ts,ev,er⟩:=azs hC.2;have e4:Hid (rs.length=C.ab.length):=aa (by rw[<-eg,dm]);have e5:Hid (ts.length=C.ay.length):=aa (by rw[<-ev,dm]);have ex:Hid (ni w 5 vs C.ab.length (rs.flatMap kl)):=aa (by rw[<-e4.out];exact azg ek);have e0:Hid (ni w 6 vt C.ay.length (ts.flatMap jx)):=aa (by rw[<-e5.out];exact azf er);obtain⟨sA,b9,rfl⟩:=ex.slice;obtain⟨tA,ca,rfl⟩:=e0.slice;have z:=aa ek;have f7:=aa er;have fg:=aa e8;have fn:=aa bb;have f1:=aa eg;have f9:=aa ev;obtain⟨W2,b8⟩:∃W2,W2=(w.alloc (bu C.vars (.slice sA C.ab.length b9) (.slice tA C.ay.length ca))).alloc (bu 0 (.slice none 0 0) (.slice none 0 0)):=⟨_,rfl⟩;have hz:W2.heap.size=w.heap.size+2:=by rw[b8];simp
 have bf:Hid (κ w W2):=aa (by rw[b8];exact ((ag _ _).alloc (ai _) _).alloc (by simp) _);have I:Hid (cg W2 w.heap.size 25 #[ι C.vars,.slice sA C.ab.length b9,.slice tA C.ay.length ca]):=aa (by rw[b8];exact (cg.new w 25 _).alloc _);have J:Hid (cg W2 (w.heap.size+1) 25 #[ι 0,.slice none 0 0,.slice none 0 0]):=aa (by rw[b8];exact cg.dy (w.alloc _) 25 _ (w.heap.size+1) (by simp));clear hC ek er e8 bb eg ev;go_enter func21,ntmps21;go_wp2_with fail;rw[<-b8];clear b8;refine cr (λW=>W.cell? (δ w.heap.size 1)=some (.slice sA C.ab.length b9)/\W.cell? (δ w.heap.size 2)=some (.slice tA C.ay.length ca)/\κ W2 W) [7,9] ?_;have a9:Hid (W2.drew.cell? (δ w.heap.size 1)=some (.slice sA C.ab.length b9)/\W2.drew.cell? (δ w.heap.size 2)=some (.slice tA C.ay.length ca)/\κ W2 W2.drew):=aa ⟨I.cell 1,I.cell 2,(ag _ _).drew⟩;have am:Hid (∀A B:ω,κ W2 A->κ A B->B.cell? (δ w.heap.size 1)=some (.slice sA C.ab.length b9)/\B.cell? (δ w.heap.size 2)=some (.slice tA C.ay.length ca)/\κ W2 B):=aa (λA B h1 h2=>⟨(I.below (h1.trans (h2.mono h1.size)) I.lt).cell 1,(I.below (h1.trans (h2.mono h1.size)) I.lt).cell 2,h1.trans (h2.mono h1.size)⟩);refine af 0 (φ w.heap.size 1) ?_;refine a7 1 (.slice sA C.ab.length b9) (a9) ?_;refine af 3 (φ w.heap.size 2) ?_;refine a7 4 (.slice tA C.ay.length ca) (a9) ?_;try simp only[Act.put,sx]
 refine a8 2 (λK d=>?_);go_simp;refine(av8 _ _ _ _ (ex.below (bf.trans (a9.2.2.mono (by have:=bf.size;omega)))) (by omega)).mono ?_;rintro e w1⟨e6,v1,rfl,d5⟩;obtain⟨O,Q,rfl⟩:=sd d5;have cb:=aa e6;have fu:=aa d5;clear e6 d5;go_simp;refine d _ _ (λ_ y=>am _ _ y.2.2 cb) ?_;try simp only[Act.put,sx]
 refine af 6 (φ w.heap.size 1) ?_;try simp only[Act.put,sx]
 refine a8 5 (λK d=>?_);go_simp;refine(av7 _ _ _ _ (e0.below (bf.trans ((a9.2.2.trans (cb.mono a9.2.2.size)).mono (by have:=bf.size;omega)))) (by omega)).mono ?_;rintro e w2⟨e7,v2,rfl,d6⟩;obtain⟨Y,Z,rfl⟩:=sd d6;have cv:=aa e7;have fv:=aa d6;clear e7 d6;go_simp;refine d _ _ (λ_ y=>am _ _ y.2.2 cv) ?_;try simp only[Act.put,sx]
 have c1:Hid (κ W2 w2):=aa ((a9.2.2.trans (cb.mono a9.2.2.size)).trans (cv.mono (a9.2.2.trans (cb.mono a9.2.2.size)).size));have b7:=aa (I.below c1 I.lt);have gi:=aa (J.below c1 J.lt);obtain⟨⟨x0,x1,x2⟩,z0,z1,z2⟩:=b7.ax;refine a8 7 (λK d=>?_);go_simp;refine d _ _ (λh=>absurd h (by decide)) ?_;try simp only[Act.put,sx]
 refine af 8 (φ w.heap.size 2) ?_;try simp only[Act.put,sx]
 refine a8 9 (λK d=>?_);go_simp;refine d _ _ (λh=>absurd h (by decide)) ?_;try simp only[Act.put,sx]
 refine ce ?_;go_wp2_with fail;have gg:Hid (cg ((w2.setCell (δ w.heap.size 1) (.slice O C.ab.length Q)).setCell (δ w.heap.size 2) (.slice Y C.ay.length Z)) w.heap.size 25 #[ι C.vars,.slice O C.ab.length Q,.slice Y C.ay.length Z]):=aa ((b7.ca 1 _).ca 2 _);have gk:Hid (cg ((w2.setCell (δ w.heap.size 1) (.slice O C.ab.length Q)).setCell (δ w.heap.size 2) (.slice Y C.ay.length Z)) (w.heap.size+1) 25 #[ι 0,.slice none 0 0,.slice none 0 0]):=aa ((gi.db (by omega) _ _).db (by omega) _ _);have V:Hid (κ w ((w2.setCell (δ w.heap.size 1) (.slice O C.ab.length Q)).setCell (δ w.heap.size 2) (.slice Y C.ay.length Z))):=aa (((bf.trans (c1.mono (by omega))).setCell (ai _) _).setCell (ai _) _);have f5:Hid (sm w ((w2.setCell (δ w.heap.size 1) (.slice O C.ab.length Q)).setCell (δ w.heap.size 2) (.slice Y C.ay.length Z)) (.slice O C.ab.length Q) C.ab 0):=aa (by have q:=sm.start z (w:=w1) (B:=W2.drew.heap.size) (v':=.slice O C.ab.length Q) (by rw[e4.out];exact fu) bf.size;rw[f1.out]at q;exact((q.below cv).apart b7 (by decide) (by decide) (by decide) 1 _).apart (b7.ca 1 _) (by decide) (by decide) (by decide) 2 _);have f8:Hid (sl w ((w2.setCell (δ w.heap.size 1) (.slice O C.ab.length Q)).setCell (δ w.heap.size 2) (.slice Y C.ay.length Z)) (.slice Y C.ay.length Z) C.ay 0):=aa (by have q:=sl.start f7 (w:=w2) (B:=w1.heap.size) (v':=.slice Y C.ay.length Z) (by rw[e5.out];exact fv) (by have:=cb.size;have:=bf.size;simp at *;omega);rw[f9.out]at q;exact(q.apart b7 (by decide) (by decide) (by decide) 1 _).apart (b7.ca 1 _) (by decide) (by decide) (by decide) 2 _);clear x0 x1 x2 z0 z1 z2;go_loopw [18] (λi wr=>∃k:Nat,k<=C.ab.length/\i=ι (k:Int)/\κ w wr/\cg wr w.heap.size 25 #[ι C.vars,.slice O C.ab.length Q,.slice Y C.ay.length Z]/\cg wr (w.heap.size+1) 25 #[ι 0,.slice none 0 0,.slice none 0 0]/\Hid (sm w wr (.slice O C.ab.length Q) C.ab k)/\Hid (sl w wr (.slice Y C.ay.length Z) C.ay 0)) (λi _=>C.ab.length-(intOf i).toNat)
 case atStart=>exact ⟨0,ar _,rfl,V,gg,gk,f5,f8⟩
 case round =>
  obtain⟨k,hk,rfl,hb,hX,hY,y,hT⟩:=hrel;obtain⟨U,rfl⟩:∃U:ω,U=wr:=⟨_,rfl⟩;by_cases bb:k<C.ab.length
  . obtain⟨g,gl,gs,vi,ve,vx,hv,gu,hg,ci,a0,⟨c2,c3,c4⟩,cl⟩:=y.out.at_ bb;injection hv with e1 e2 e3;subst e1;subst e3;obtain⟨iA,ax,eA,av,xA,co,rfl,rfl,rfl⟩:=a0.slices;obtain⟨n1,n2,n3⟩:=fg.out k bb;have c7:Hid (dd w (.slice iA (C.ab.getD k pz).ip.length ax) (C.ab.getD k pz).ip):=aa a0.1;have c5:Hid (oc w (.slice eA (C.ab.getD k pz).kv.length av) (C.ab.getD k pz).kv):=aa a0.2.1;have fa:Hid (oc w (.slice xA (C.ab.getD k pz).me.length co) (C.ab.getD k pz).me):=aa a0.2.2;have dy:=aa cl;have b4:=aa ci;have HG:=aa hg;have HB:=aa hb;have I:=aa hX;have J:=aa hY;obtain⟨⟨x0,x1,x2⟩,-⟩:=hX.ax;generalize (C.ab.getD k pz).ip=F at *;generalize (C.ab.getD k pz).kv=E at *;generalize (C.ab.getD k pz).me=LX at *;clear a0 cl hg ci hb hX hY y;go_wp2_with fail;have ba:Hid (g<U.heap.size):=aa HG.lt;have z:Hid (U.drew.cell? (δ g (k*5+2))=some (.slice iA F.length ax)/\U.drew.cell? (δ g (k*5+3))=some (.slice eA E.length av)/\U.drew.cell? (δ g (k*5+4))=some (.slice xA LX.length co)/\κ U U.drew):=aa ⟨c2,c3,c4,(ag _ _).drew⟩;have am:Hid (∀A B:ω,κ U A->κ A B->B.cell? (δ g (k*5+2))=some (.slice iA F.length ax)/\B.cell? (δ g (k*5+3))=some (.slice eA E.length av)/\B.cell? (δ g (k*5+4))=some (.slice xA LX.length co)/\κ U B):=aa (λA B h1 h2=>by have h3:=h1.trans (h2.mono h1.size);exact⟨(h3.cell (p:=(δ g _)) ba).trans z.1,(h3.cell (p:=(δ g _)) ba).trans z.2.1,(h3.cell (p:=(δ g _)) ba).trans z.2.2.1,h3⟩);clear c2 c3 c4;refine cr (λW=>W.cell? (δ g (k*5+2))=some (.slice iA F.length ax)/\W.cell? (δ g (k*5+3))=some (.slice eA E.length av)/\W.cell? (δ g (k*5+4))=some (.slice xA LX.length co)/\κ U W) [20,23,26] ?_;refine af 0 (φ g (k*5)) ?_;refine af 1 (φ g (k*5)) ?_;refine af 2 (φ g (k*5)) ?_;refine af 3 (φ g (k*5)) ?_;refine af 4 (φ g (k*5)) ?_;refine af 5 (φ g (k*5+2)) ?_;refine a7 6 (.slice iA F.length ax) (z) ?_;refine af 8 (φ g (k*5)) ?_;refine af 9 (φ g (k*5)) ?_;refine af 10 (φ g (k*5+3)) ?_;refine a7 11 (.slice eA E.length av) (z) ?_;refine af 13 (φ g (k*5)) ?_;refine af 14 (φ g (k*5)) ?_;refine af 15 (φ g (k*5+4)) ?_;refine a7 16 (.slice xA LX.length co) (z) ?_;try simp only[Act.put,sx]
    have bk:Hid (κ w U.drew):=aa HB.drew;refine a8 7 (λK d=>?_);go_simp;refine(aix _ _ _ _ ((l9 c7).below bk) n1).mono ?_;rintro e w3⟨bt,v3,rfl,b1⟩;obtain⟨a3,k3,rfl⟩:=sd b1;have db:=aa b1;have V:=aa bt;have bs:Hid (κ w w3):=aa (bk.trans (bt.mono bk.size));clear bt b1;go_simp;refine d _ _ (λ_ y=>am _ _ y.2.2.2 V) ?_;try simp only[Act.put,sx]
    refine a8 12 (λK d=>?_);go_simp;refine(adc _ _ _ _ ((aev c5).below bs) n2).mono ?_;rintro e w4⟨b0,v4,rfl,b2⟩;obtain⟨a4,k4,rfl⟩:=sd b2;have ds:=aa b2;have ad:=aa b0;have cc:Hid (κ w w4):=aa (bs.trans (b0.mono bs.size));clear b0 b2;go_simp;refine d _ _ (λ_ y=>am _ _ y.2.2.2 ad) ?_;try simp only[Act.put,sx]
    refine a8 17 (λK d=>?_);go_simp;refine(adc _ _ _ _ ((aev fa).below cc) n3).mono ?_;rintro e w5⟨d4,v5,rfl,eb⟩;obtain⟨a5,k5,rfl⟩:=sd eb;have f0:=aa eb;have b3:=aa d4;have e9:Hid (κ w w5):=aa (cc.trans (d4.mono cc.size));clear d4 eb;go_simp;refine d _ _ (λ_ y=>am _ _ y.2.2.2 b3) ?_;try simp only[Act.put,sx]
    have ak:Hid (κ U w5):=aa ((z.2.2.2.trans V).trans ((ad.trans (b3.mono ad.size)).mono (z.2.2.2.trans V).size));have al:=aa (HG.below ak ba);obtain⟨q2,q3,q4,-⟩:=am.out _ _ ((z.2.2.2.trans V).trans (ad.mono (z.2.2.2.trans V).size)) b3;have f2:=al.frozen (k*5+2);have f3:=al.frozen (k*5+3);have f4:=al.frozen (k*5+4);refine af 18 (φ g (k*5)) ?_;refine af 19 (φ g (k*5+2)) ?_;try simp only[Act.put,sx]
    refine a8 20 (λK d=>?_);go_simp;refine d _ _ (λh=>absurd h (by decide)) ?_;try simp only[Act.put,sx]
    refine af 21 (φ g (k*5)) ?_;refine af 22 (φ g (k*5+3)) ?_;try simp only[Act.put,sx]
    refine a8 23 (λK d=>?_);go_simp;refine d _ _ (λh=>absurd h (by decide)) ?_;try simp only[Act.put,sx]
    refine af 24 (φ g (k*5)) ?_;refine af 25 (φ g (k*5+4)) ?_;try simp only[Act.put,sx]
    refine a8 26 (λK d=>?_);go_simp;refine d _ _ (λh=>absurd h (by decide)) ?_;try simp only[Act.put,sx]
    refine ce ?_;have b5:Hid (w.heap.size≠g):=aa (ap2 I HG (by decide));have b6:Hid (w.heap.size+1≠g):=aa (ap2 J HG (by decide));have el:U.heap.size<=w3.heap.size/\w3.heap.size<=w4.heap.size/\w4.heap.size<=w5.heap.size/\w.heap.size<=U.heap.size:=⟨V.size,ad.size,b3.size,HB.size⟩;have d2:=aa ((((I.below ak I.lt).db b5 (k*5+2) (.slice a3 F.length k3)).db b5 (k*5+3) (.slice a4 E.length k4)).db b5 (k*5+4) (.slice a5 LX.length k5));have d3:=aa ((((J.below ak J.lt).db b6 (k*5+2) (.slice a3 F.length k3)).db b6 (k*5+3) (.slice a4 E.length k4)).db b6 (k*5+4) (.slice a5 LX.length k5));have d1:=aa ((((hT.out.below ak).apart al (by decide) (by decide) (by decide) (k*5+2) (.slice a3 F.length k3)).apart (al.ca _ _) (by decide) (by decide) (by decide) (k*5+3) (.slice a4 E.length k4)).apart ((al.ca _ _).ca _ _) (by decide) (by decide) (by decide) (k*5+4) (.slice a5 LX.length k5));have d0:=aa (dy w5 (.slice a3 F.length k3) (.slice a4 E.length k4) (.slice a5 LX.length k5) ak
     (((oy.fg db (by simp;omega)).below ad).below b3) ((pv.fg ds (by omega)).below b3) (pv.fg f0 (by omega)))
    have c0:=aa (((e9.setCell (p:=(δ g (k*5+2))) b4 (.slice a3 F.length k3)).setCell (p:=(δ g (k*5+3))) b4 (.slice a4 E.length k4)).setCell (p:=(δ g (k*5+4))) b4 (.slice a5 LX.length k5));clear q2 q3 q4 f2 f3 f4 el;go_wp2;go_roundw
    case rel=>exact ⟨k+1,by omega,by go_num,c0,d2,d3,d0,d1⟩
    case measure=>simp[intOf];omega
  . obtain rfl:k=C.ab.length:=(by omega);have HS:=aa y.out;obtain⟨⟨x0,x1,x2⟩,-⟩:=hX.ax;go_wp2_with fail;clear x0 x1 x2;go_loopw [53] (λi wr=>∃k:Nat,k<=C.ay.length/\i=ι (k:Int)/\κ w wr/\cg wr w.heap.size 25 #[ι C.vars,.slice O C.ab.length Q,.slice Y C.ay.length Z]/\cg wr (w.heap.size+1) 25 #[ι 0,.slice none 0 0,.slice none 0 0]/\Hid (sm w wr (.slice O C.ab.length Q) C.ab C.ab.length)/\Hid (sl w wr (.slice Y C.ay.length Z) C.ay k)) (λi _=>C.ay.length-(intOf i).toNat)
    case atStart=>exact ⟨0,ar _,rfl,hb,hX,hY,y,hT⟩
    case round =>
     clear y hT hb hX hY;obtain⟨k,hk,rfl,hb,hX,hY,y,hT⟩:=hrel;obtain⟨wp,rfl⟩:∃wp:ω,wp=wr:=⟨_,rfl⟩;by_cases bb:k<C.ay.length
     . obtain⟨g,gl,gs,vt,va,hv,gu,hg,ci,a0,⟨c2,c3⟩,cl⟩:=hT.out.at_ bb;injection hv with e1 e2 e3;subst e1;subst e3;obtain⟨iA,ax,eA,av,rfl,rfl⟩:=a0.slices;obtain⟨n1,n2⟩:=fn.out k bb;have c7:Hid (dd w (.slice iA (C.ay.getD k mt).cj.length ax) (C.ay.getD k mt).cj):=aa a0.1;have c5:Hid (oc w (.slice eA (C.ay.getD k mt).acts.length av) (C.ay.getD k mt).acts):=aa a0.2;have dy:=aa cl;have b4:=aa ci;have HG:=aa hg;have HB:=aa hb;have I:=aa hX;have J:=aa hY;obtain⟨⟨x0,x1,x2⟩,-⟩:=hX.ax;generalize (C.ay.getD k mt).cj=F at *;generalize (C.ay.getD k mt).acts=E at *;clear a0 cl hg ci hb hX hY hT;go_wp2_with fail;have ba:Hid (g<wp.heap.size):=aa HG.lt;have z:Hid (wp.drew.cell? (δ g (k*6+3))=some (.slice iA F.length ax)/\wp.drew.cell? (δ g (k*6+5))=some (.slice eA E.length av)/\κ wp wp.drew):=aa ⟨c2,c3,(ag _ _).drew⟩;have am:Hid (∀A B:ω,κ wp A->κ A B->B.cell? (δ g (k*6+3))=some (.slice iA F.length ax)/\B.cell? (δ g (k*6+5))=some (.slice eA E.length av)/\κ wp B):=aa (λA B h1 h2=>by have h3:=h1.trans (h2.mono h1.size);exact⟨(h3.cell (p:=(δ g _)) ba).trans z.1,(h3.cell (p:=(δ g _)) ba).trans z.2.1,h3⟩);clear c2 c3;refine cr (λW=>W.cell? (δ g (k*6+3))=some (.slice iA F.length ax)/\W.cell? (δ g (k*6+5))=some (.slice eA E.length av)/\κ wp W) [14,17] ?_;refine af 0 (φ g (k*6)) ?_;refine af 1 (φ g (k*6)) ?_;refine af 2 (φ g (k*6)) ?_;refine af 3 (φ g (k*6)) ?_;refine af 4 (φ g (k*6+3)) ?_;refine a7 5 (.slice iA F.length ax) (z) ?_;refine af 7 (φ g (k*6)) ?_;refine af 8 (φ g (k*6)) ?_;refine af 9 (φ g (k*6+5)) ?_;refine a7 10 (.slice eA E.length av) (z) ?_;try simp only[Act.put,sx]
       have bk:Hid (κ w wp.drew):=aa HB.drew;refine a8 6 (λK d=>?_);go_simp;refine(aix _ _ _ _ ((l9 c7).below bk) n1).mono ?_;rintro e w3⟨bt,v3,rfl,b1⟩;obtain⟨a3,k3,rfl⟩:=sd b1;have db:=aa b1;have V:=aa bt;have bs:Hid (κ w w3):=aa (bk.trans (bt.mono bk.size));clear bt b1;go_simp;refine d _ _ (λ_ y=>am _ _ y.2.2 V) ?_;try simp only[Act.put,sx]
       refine a8 11 (λK d=>?_);go_simp;refine(adc _ _ _ _ ((aev c5).below bs) n2).mono ?_;rintro e w4⟨b0,v4,rfl,b2⟩;obtain⟨a4,k4,rfl⟩:=sd b2;have ds:=aa b2;have ad:=aa b0;have cc:Hid (κ w w4):=aa (bs.trans (b0.mono bs.size));clear b0 b2;go_simp;refine d _ _ (λ_ y=>am _ _ y.2.2 ad) ?_;try simp only[Act.put,sx]
       have ak:Hid (κ wp w4):=aa ((z.2.2.trans V).trans (ad.mono (z.2.2.trans V).size));have al:=aa (HG.below ak ba);obtain⟨q2,q3,-⟩:=am.out _ _ (z.2.2.trans V) ad;have f2:=al.frozen (k*6+3);have f3:=al.frozen (k*6+5);refine af 12 (φ g (k*6)) ?_;refine af 13 (φ g (k*6+3)) ?_;try simp only[Act.put,sx]
       refine a8 14 (λK d=>?_);go_simp;refine d _ _ (λh=>absurd h (by decide)) ?_;try simp only[Act.put,sx]
       refine af 15 (φ g (k*6)) ?_;refine af 16 (φ g (k*6+5)) ?_;try simp only[Act.put,sx]
       refine a8 17 (λK d=>?_);go_simp;refine d _ _ (λh=>absurd h (by decide)) ?_;try simp only[Act.put,sx]
       refine ce ?_;have b5:Hid (w.heap.size≠g):=aa (ap2 I HG (by decide));have b6:Hid (w.heap.size+1≠g):=aa (ap2 J HG (by decide));have el:wp.heap.size<=w3.heap.size/\w3.heap.size<=w4.heap.size/\w.heap.size<=wp.heap.size:=⟨V.size,ad.size,HB.size⟩;have d2:=aa (((I.below ak I.lt).db b5 (k*6+3) (.slice a3 F.length k3)).db b5 (k*6+5) (.slice a4 E.length k4));have d3:=aa (((J.below ak J.lt).db b6 (k*6+3) (.slice a3 F.length k3)).db b6 (k*6+5) (.slice a4 E.length k4));have d0:=aa (((y.out.below ak).apart al (by decide) (by decide) (by decide) (k*6+3) (.slice a3 F.length k3)).apart (al.ca _ _) (by decide) (by decide) (by decide) (k*6+5) (.slice a4 E.length k4));have d1:=aa (dy w4 (.slice a3 F.length k3) (.slice a4 E.length k4) ak
        ((oy.fg db (by simp;omega)).below ad) (pv.fg ds (by omega)))
       have c0:=aa ((cc.setCell (p:=(δ g (k*6+3))) b4 (.slice a3 F.length k3)).setCell (p:=(δ g (k*6+5))) b4 (.slice a4 E.length k4));clear q2 q3 f2 f3 el;go_wp2;go_roundw
       case rel=>exact ⟨k+1,by omega,by go_num,c0,d2,d3,d0,d1⟩
       case measure=>simp[intOf];omega
     . obtain rfl:k=C.ay.length:=(by omega);have HB:=aa hb;have I:=aa hX;have J:=aa hY;have f6:=aa (y.out);have gb:=aa (hT.out);obtain⟨⟨x0,x1,x2⟩,-⟩:=hX.ax;obtain⟨⟨y0,y1,y2⟩,z0,z1,z2⟩:=hY.ax;clear hX hY hb y hT;go_wp2_with fail;refine bodyPost_ret (l2 rfl _ _ _ rfl (axi (((J.ca 0 _).ca 1 _).ca 2 _))) rfl ?_;have q1:=J.ca 0 (ι C.vars);have q2:=q1.ca 1 (.slice O C.ab.length Q);obtain⟨gv,e1,o1⟩:=(((f6.apart J (by decide) (by decide) (by decide) 0 (ι C.vars)).apart q1 (by decide) (by decide) (by decide) 1 (.slice O C.ab.length Q)).apart q2 (by decide) (by decide) (by decide) 2 (.slice Y C.ay.length Z)).own;obtain⟨gx,e2,o2⟩:=(((gb.apart J (by decide) (by decide) (by decide) 0 (ι C.vars)).apart q1 (by decide) (by decide) (by decide) 1 (.slice O C.ab.length Q)).apart q2 (by decide) (by decide) (by decide) 2 (.slice Y C.ay.length Z)).own;exact⟨((HB.setCell (p:=(δ (w.heap.size+1) 0)) (by simp) _).setCell (p:=(δ (w.heap.size+1) 1)) (by simp) _).setCell (p:=(δ (w.heap.size+1) 2)) (by simp) _,_,_,rfl,gv,gx,e1,e2,o1,o2⟩
def ee:Vl->Value
 | .ok k n=>.agg #[ι k,ι n,ι 0]
 | .bad c=>.agg #[ι 0,ι 0,ι c]
theorem dt{F:Func}{r:Tmp}(O:F.results=#[.cell r 284])(J:Array Value)(w:ω)(g:Nat)(a b c:Value)
 (I:J.getD r undef=φ g 0)(d:cg w g 284 #[a,b,c]) :
 (results F J).run prog w=.ok (.agg #[a,b,c]) w:=by
 have y:=d.cell 0;have z:=d.cell 1;have E:=d.cell 2;simp at y z E I;simp[results,O,I,go_sem,y,z,E]
theorem om(n:Int)(w:ω):Calls prog 298 #[ι n] w λe d=>e=.returned (.agg #[ι 1,ι n,ι 0])/\κ w d:=by go_enter func298,ntmps298;go_wp2;refine bodyPost_ret (dt Tryz.results298 _ _ w.heap.size _ _ _ (by rfl) (cg.new w 284 _)) rfl ⟨rfl,(ag _ _).alloc (ai _) _⟩
theorem m3(b:Bool)(w:ω):Calls prog 299 #[.bool b] w λe d=>e=.returned (.agg #[ι 2,ι (aeb b),ι 0])/\κ w d:=by
 cases b;all_goals
  go_enter func299,ntmps299
  go_wp2
  refine bodyPost_ret (dt Tryz.results299 _ _ w.heap.size _ _ _ (by rfl) (cg.new w 284 _)) rfl ⟨rfl,(ag _ _).alloc (ai _) _⟩
theorem jj{v:Vl}{a b c:Int}(h:ee v=.agg #[ι a,ι b,ι c]):Ending.returned (.agg #[ι a,ι b,ι c])=.returned (ee v):=by rw[h]
theorem bap{kd d an y bn:Int}(h:d≠y):jf kd d an y bn=.bad 8:=by unfold jf;rw[ao h]
def W2(w:ω)(d an y bn:Int):ω:=(w.alloc (.cells #[ι d,ι an] 239)).alloc (.cells #[ι y,ι bn] 239)
theorem pl(w:ω)(d an y bn:Int):(W2 w d an y bn).heap.size=w.heap.size+1+1:=by simp[W2]
theorem ef(w:ω)(d an y bn:Int):κ w (W2 w d an y bn):=((ag w.heap.size w).alloc (ai _) _).alloc (by simp) _
theorem a12(kd d an y bn:Int)(w:ω)(h:d≠y):Calls prog 301 #[ι kd,.agg #[ι d,ι an],.agg #[ι y,ι bn]] w λe F=>e=.returned (ee (jf kd d an y bn))/\κ w F:=by
 have I:(d != y)=true:=by simpa using h
 have J:(d==y)=false:=by simpa using h
 have E:=aa (bap (kd:=kd) (an:=an) (bn:=bn) h);clear h;have z:=aa (ef w d an y bn);go_enter func301,ntmps301;go_wp2;refine bodyPost_ret (dt Tryz.results301 _ _ (w.heap.size+1+1) _ _ _ (by rfl) (cg.dy _ 284 _ _ (by simp))) rfl ⟨jj (by rw[E.out];rfl),z.alloc z.size _⟩
theorem a14(k an bn:Int)(w:ω):Calls prog 301 #[ι 10,.agg #[ι k,ι an],.agg #[ι k,ι bn]] w λe I=>e=.returned (ee (jf 10 k an k bn))/\κ w I:=by
 have Y:(k != k)=false:=by simp
 have Z:(k==k)=true:=by simp
 have y:=aa ((ef w k an k bn).alloc (ef w k an k bn).size (.cells #[ι 0,ι 0,ι 0] 284));have E:=aa (cg.dy (W2 w k an k bn) 284 #[ι 0,ι 0,ι 0] (w.heap.size+1+1) (pl w k an k bn));go_enter func301,ntmps301;go_wp2_with fail;refine(m3 _ _).mono ?_;rintro e w1⟨rfl,d⟩;have F:=aa (y.trans (d.mono y.size));have z:=aa (E.below d E.lt);obtain⟨⟨J,O,Q⟩,U,V,W⟩:=z.ax;clear d;go_wp2_with fail;refine bodyPost_ret (dt Tryz.results301 _ _ (w.heap.size+1+1) _ _ _ (by rfl) (z.l7 _ _ _)) rfl ⟨jj (by simp[jf,tru,ee];rfl),((F.setCell (by simp;omega) _).setCell (by simp;omega) _).setCell (by simp;omega) _⟩
theorem a13(k an bn:Int)(w:ω):Calls prog 301 #[ι 11,.agg #[ι k,ι an],.agg #[ι k,ι bn]] w λe I=>e=.returned (ee (jf 11 k an k bn))/\κ w I:=by
 have Y:(k != k)=false:=by simp
 have Z:(k==k)=true:=by simp
 have y:=aa ((ef w k an k bn).alloc (ef w k an k bn).size (.cells #[ι 0,ι 0,ι 0] 284));have E:=aa (cg.dy (W2 w k an k bn) 284 #[ι 0,ι 0,ι 0] (w.heap.size+1+1) (pl w k an k bn));go_enter func301,ntmps301;go_wp2_with fail;refine(m3 _ _).mono ?_;rintro e w1⟨rfl,d⟩;have F:=aa (y.trans (d.mono y.size));have z:=aa (E.below d E.lt);obtain⟨⟨J,O,Q⟩,U,V,W⟩:=z.ax;clear d;go_wp2_with fail;refine bodyPost_ret (dt Tryz.results301 _ _ (w.heap.size+1+1) _ _ _ (by rfl) (z.l7 _ _ _)) rfl ⟨jj (by simp[jf,tru,ee];rfl),((F.setCell (by simp;omega) _).setCell (by simp;omega) _).setCell (by simp;omega) _⟩
theorem bck(an bn:Int)(w:ω):Calls prog 301 #[ι 3,.agg #[ι 1,ι an],.agg #[ι 1,ι bn]] w λe F=>e=.returned (ee (jf 3 1 an 1 bn))/\κ w F:=by have y:=aa ((ef w 1 an 1 bn).alloc (ef w 1 an 1 bn).size (.cells #[ι 0,ι 0,ι 0] 284));have E:=aa (cg.dy (W2 w 1 an 1 bn) 284 #[ι 0,ι 0,ι 0] (w.heap.size+1+1) (pl w 1 an 1 bn));go_enter func301,ntmps301;go_wp2_with fail;refine(a3m an bn _).mono ?_;rintro e F⟨rfl,rfl⟩;go_wp2_with fail;refine(om _ _).mono ?_;rintro e Y⟨rfl,d⟩;have I:=aa (y.trans (d.mono y.size));have z:=aa (E.below d E.lt);obtain⟨⟨J,O,Q⟩,U,V,W⟩:=z.ax;clear d;go_wp2_with fail;refine bodyPost_ret (dt Tryz.results301 _ _ (w.heap.size+1+1) _ _ _ (by rfl) (z.l7 _ _ _)) rfl ⟨jj (by simp[jf,ee]),((I.setCell (by simp;omega) _).setCell (by simp;omega) _).setCell (by simp;omega) _⟩
theorem bcj(an bn:Int)(w:ω):Calls prog 301 #[ι 4,.agg #[ι 1,ι an],.agg #[ι 1,ι bn]] w λe F=>e=.returned (ee (jf 4 1 an 1 bn))/\κ w F:=by have y:=aa ((ef w 1 an 1 bn).alloc (ef w 1 an 1 bn).size (.cells #[ι 0,ι 0,ι 0] 284));have E:=aa (cg.dy (W2 w 1 an 1 bn) 284 #[ι 0,ι 0,ι 0] (w.heap.size+1+1) (pl w 1 an 1 bn));go_enter func301,ntmps301;go_wp2_with fail;refine(akk an bn _).mono ?_;rintro e F⟨rfl,rfl⟩;go_wp2_with fail;refine(om _ _).mono ?_;rintro e Y⟨rfl,d⟩;have I:=aa (y.trans (d.mono y.size));have z:=aa (E.below d E.lt);obtain⟨⟨J,O,Q⟩,U,V,W⟩:=z.ax;clear d;go_wp2_with fail;refine bodyPost_ret (dt Tryz.results301 _ _ (w.heap.size+1+1) _ _ _ (by rfl) (z.l7 _ _ _)) rfl ⟨jj (by simp[jf,ee]),((I.setCell (by simp;omega) _).setCell (by simp;omega) _).setCell (by simp;omega) _⟩
theorem bci(an bn:Int)(w:ω):Calls prog 301 #[ι 5,.agg #[ι 1,ι an],.agg #[ι 1,ι bn]] w λe F=>e=.returned (ee (jf 5 1 an 1 bn))/\κ w F:=by have y:=aa ((ef w 1 an 1 bn).alloc (ef w 1 an 1 bn).size (.cells #[ι 0,ι 0,ι 0] 284));have E:=aa (cg.dy (W2 w 1 an 1 bn) 284 #[ι 0,ι 0,ι 0] (w.heap.size+1+1) (pl w 1 an 1 bn));go_enter func301,ntmps301;go_wp2_with fail;refine(aq8 an bn _).mono ?_;rintro e F⟨rfl,rfl⟩;go_wp2_with fail;refine(om _ _).mono ?_;rintro e Y⟨rfl,d⟩;have I:=aa (y.trans (d.mono y.size));have z:=aa (E.below d E.lt);obtain⟨⟨J,O,Q⟩,U,V,W⟩:=z.ax;clear d;go_wp2_with fail;refine bodyPost_ret (dt Tryz.results301 _ _ (w.heap.size+1+1) _ _ _ (by rfl) (z.l7 _ _ _)) rfl ⟨jj (by simp[jf,ee]),((I.setCell (by simp;omega) _).setCell (by simp;omega) _).setCell (by simp;omega) _⟩
theorem bch(an bn:Int)(w:ω)(y:¬bn=0)(J:uj an)(O:uj bn):Calls prog 301 #[ι 6,.agg #[ι 1,ι an],.agg #[ι 1,ι bn]] w λe Q=>e=.returned (ee (jf 6 1 an 1 bn))/\κ w Q:=by
 have ad:(bn==0)=false:=by simpa using y
 have I:=aa y;have U:=aa J;have V:=aa O;clear y J O;have z:=aa ((ef w 1 an 1 bn).alloc (ef w 1 an 1 bn).size (.cells #[ι 0,ι 0,ι 0] 284));have F:=aa (cg.dy (W2 w 1 an 1 bn) 284 #[ι 0,ι 0,ι 0] (w.heap.size+1+1) (pl w 1 an 1 bn));go_enter func301,ntmps301;go_wp2_with fail;refine(arj an bn _ I U V).mono ?_;rintro e Q⟨rfl,rfl⟩;go_wp2_with fail;refine(om _ _).mono ?_;rintro e w1⟨rfl,d⟩;have W:=aa (z.trans (d.mono z.size));have E:=aa (F.below d F.lt);obtain⟨⟨Y,Z,c2⟩,f0,f1,f2⟩:=E.ax;clear d;go_wp2_with fail;refine bodyPost_ret (dt Tryz.results301 _ _ (w.heap.size+1+1) _ _ _ (by rfl) (E.l7 _ _ _)) rfl ⟨jj (by simp[jf,ee,I.out]),((W.setCell (by simp;omega) _).setCell (by simp;omega) _).setCell (by simp;omega) _⟩
theorem bau(an:Int)(w:ω):Calls prog 301 #[ι 6,.agg #[ι 1,ι an],.agg #[ι 1,ι 0]] w λe y=>e=.returned (ee (jf 6 1 an 1 0))/\κ w y:=by have d:=aa (ef w 1 an 1 0);go_enter func301,ntmps301;go_wp2;refine bodyPost_ret (dt Tryz.results301 _ _ (w.heap.size+1+1) _ _ _ (by rfl) (cg.dy _ 284 _ _ (by simp))) rfl ⟨jj (by simp[jf,ee]),d.alloc d.size _⟩
theorem bcg(an bn:Int)(w:ω)(y:¬bn=0)(J:uj an)(O:uj bn):Calls prog 301 #[ι 7,.agg #[ι 1,ι an],.agg #[ι 1,ι bn]] w λe Q=>e=.returned (ee (jf 7 1 an 1 bn))/\κ w Q:=by
 have ad:(bn==0)=false:=by simpa using y
 have I:=aa y;have U:=aa J;have V:=aa O;clear y J O;have z:=aa ((ef w 1 an 1 bn).alloc (ef w 1 an 1 bn).size (.cells #[ι 0,ι 0,ι 0] 284));have F:=aa (cg.dy (W2 w 1 an 1 bn) 284 #[ι 0,ι 0,ι 0] (w.heap.size+1+1) (pl w 1 an 1 bn));go_enter func301,ntmps301;go_wp2_with fail;refine(a3h an bn _ I U V).mono ?_;rintro e Q⟨rfl,rfl⟩;go_wp2_with fail;refine(om _ _).mono ?_;rintro e w1⟨rfl,d⟩;have W:=aa (z.trans (d.mono z.size));have E:=aa (F.below d F.lt);obtain⟨⟨Y,Z,c2⟩,f0,f1,f2⟩:=E.ax;clear d;go_wp2_with fail;refine bodyPost_ret (dt Tryz.results301 _ _ (w.heap.size+1+1) _ _ _ (by rfl) (E.l7 _ _ _)) rfl ⟨jj (by simp[jf,ee,I.out]),((W.setCell (by simp;omega) _).setCell (by simp;omega) _).setCell (by simp;omega) _⟩
theorem bas(an:Int)(w:ω):Calls prog 301 #[ι 7,.agg #[ι 1,ι an],.agg #[ι 1,ι 0]] w λe y=>e=.returned (ee (jf 7 1 an 1 0))/\κ w y:=by have d:=aa (ef w 1 an 1 0);go_enter func301,ntmps301;go_wp2;refine bodyPost_ret (dt Tryz.results301 _ _ (w.heap.size+1+1) _ _ _ (by rfl) (cg.dy _ 284 _ _ (by simp))) rfl ⟨jj (by simp[jf,ee]),d.alloc d.size _⟩
theorem bcf(an bn:Int)(w:ω):Calls prog 301 #[ι 8,.agg #[ι 1,ι an],.agg #[ι 1,ι bn]] w λe I=>e=.returned (ee (jf 8 1 an 1 bn))/\κ w I:=by have y:=aa ((ef w 1 an 1 bn).alloc (ef w 1 an 1 bn).size (.cells #[ι 0,ι 0,ι 0] 284));have E:=aa (cg.dy (W2 w 1 an 1 bn) 284 #[ι 0,ι 0,ι 0] (w.heap.size+1+1) (pl w 1 an 1 bn));go_enter func301,ntmps301;go_wp2_with fail;refine(m3 _ _).mono ?_;rintro e Y⟨rfl,d⟩;have F:=aa (y.trans (d.mono y.size));have z:=aa (E.below d E.lt);obtain⟨⟨J,O,Q⟩,U,V,W⟩:=z.ax;clear d;go_wp2_with fail;refine bodyPost_ret (dt Tryz.results301 _ _ (w.heap.size+1+1) _ _ _ (by rfl) (z.l7 _ _ _)) rfl ⟨jj (by simp[jf,tru,ee]),((F.setCell (by simp;omega) _).setCell (by simp;omega) _).setCell (by simp;omega) _⟩
theorem bce(an bn:Int)(w:ω):Calls prog 301 #[ι 9,.agg #[ι 1,ι an],.agg #[ι 1,ι bn]] w λe I=>e=.returned (ee (jf 9 1 an 1 bn))/\κ w I:=by have y:=aa ((ef w 1 an 1 bn).alloc (ef w 1 an 1 bn).size (.cells #[ι 0,ι 0,ι 0] 284));have E:=aa (cg.dy (W2 w 1 an 1 bn) 284 #[ι 0,ι 0,ι 0] (w.heap.size+1+1) (pl w 1 an 1 bn));go_enter func301,ntmps301;go_wp2_with fail;refine(m3 _ _).mono ?_;rintro e Y⟨rfl,d⟩;have F:=aa (y.trans (d.mono y.size));have z:=aa (E.below d E.lt);obtain⟨⟨J,O,Q⟩,U,V,W⟩:=z.ax;clear d;go_wp2_with fail;refine bodyPost_ret (dt Tryz.results301 _ _ (w.heap.size+1+1) _ _ _ (by rfl) (z.l7 _ _ _)) rfl ⟨jj (by simp[jf,tru,ee]),((F.setCell (by simp;omega) _).setCell (by simp;omega) _).setCell (by simp;omega) _⟩
theorem a7d(an bn:Int)(w:ω):Calls prog 301 #[ι 12,.agg #[ι 1,ι an],.agg #[ι 1,ι bn]] w λe y=>e=.returned (ee (jf 12 1 an 1 bn))/\κ w y:=by have d:=aa (ef w 1 an 1 bn);go_enter func301,ntmps301;go_wp2;refine bodyPost_ret (dt Tryz.results301 _ _ (w.heap.size+1+1) _ _ _ (by rfl) (cg.dy _ 284 _ _ (by simp))) rfl ⟨jj (by simp[jf,ee]),d.alloc d.size _⟩
theorem a7a(an bn:Int)(w:ω):Calls prog 301 #[ι 13,.agg #[ι 1,ι an],.agg #[ι 1,ι bn]] w λe y=>e=.returned (ee (jf 13 1 an 1 bn))/\κ w y:=by have d:=aa (ef w 1 an 1 bn);go_enter func301,ntmps301;go_wp2;refine bodyPost_ret (dt Tryz.results301 _ _ (w.heap.size+1+1) _ _ _ (by rfl) (cg.dy _ 284 _ _ (by simp))) rfl ⟨jj (by simp[jf,ee]),d.alloc d.size _⟩
theorem bay(an bn:Int)(w:ω):Calls prog 301 #[ι 3,.agg #[ι 2,ι an],.agg #[ι 2,ι bn]] w λe y=>e=.returned (ee (jf 3 2 an 2 bn))/\κ w y:=by have d:=aa (ef w 2 an 2 bn);go_enter func301,ntmps301;go_wp2;refine bodyPost_ret (dt Tryz.results301 _ _ (w.heap.size+1+1) _ _ _ (by rfl) (cg.dy _ 284 _ _ (by simp))) rfl ⟨jj (by simp[jf,ee]),d.alloc d.size _⟩
theorem bax(an bn:Int)(w:ω):Calls prog 301 #[ι 4,.agg #[ι 2,ι an],.agg #[ι 2,ι bn]] w λe y=>e=.returned (ee (jf 4 2 an 2 bn))/\κ w y:=by have d:=aa (ef w 2 an 2 bn);go_enter func301,ntmps301;go_wp2;refine bodyPost_ret (dt Tryz.results301 _ _ (w.heap.size+1+1) _ _ _ (by rfl) (cg.dy _ 284 _ _ (by simp))) rfl ⟨jj (by simp[jf,ee]),d.alloc d.size _⟩
theorem baw(an bn:Int)(w:ω):Calls prog 301 #[ι 5,.agg #[ι 2,ι an],.agg #[ι 2,ι bn]] w λe y=>e=.returned (ee (jf 5 2 an 2 bn))/\κ w y:=by have d:=aa (ef w 2 an 2 bn);go_enter func301,ntmps301;go_wp2;refine bodyPost_ret (dt Tryz.results301 _ _ (w.heap.size+1+1) _ _ _ (by rfl) (cg.dy _ 284 _ _ (by simp))) rfl ⟨jj (by simp[jf,ee]),d.alloc d.size _⟩
theorem bav(an bn:Int)(w:ω):Calls prog 301 #[ι 6,.agg #[ι 2,ι an],.agg #[ι 2,ι bn]] w λe y=>e=.returned (ee (jf 6 2 an 2 bn))/\κ w y:=by have d:=aa (ef w 2 an 2 bn);go_enter func301,ntmps301;go_wp2;refine bodyPost_ret (dt Tryz.results301 _ _ (w.heap.size+1+1) _ _ _ (by rfl) (cg.dy _ 284 _ _ (by simp))) rfl ⟨jj (by simp[jf,ee]),d.alloc d.size _⟩
theorem bat(an bn:Int)(w:ω):Calls prog 301 #[ι 7,.agg #[ι 2,ι an],.agg #[ι 2,ι bn]] w λe y=>e=.returned (ee (jf 7 2 an 2 bn))/\κ w y:=by have d:=aa (ef w 2 an 2 bn);go_enter func301,ntmps301;go_wp2;refine bodyPost_ret (dt Tryz.results301 _ _ (w.heap.size+1+1) _ _ _ (by rfl) (cg.dy _ 284 _ _ (by simp))) rfl ⟨jj (by simp[jf,ee]),d.alloc d.size _⟩
theorem bar(an bn:Int)(w:ω):Calls prog 301 #[ι 8,.agg #[ι 2,ι an],.agg #[ι 2,ι bn]] w λe y=>e=.returned (ee (jf 8 2 an 2 bn))/\κ w y:=by have d:=aa (ef w 2 an 2 bn);go_enter func301,ntmps301;go_wp2;refine bodyPost_ret (dt Tryz.results301 _ _ (w.heap.size+1+1) _ _ _ (by rfl) (cg.dy _ 284 _ _ (by simp))) rfl ⟨jj (by simp[jf,ee]),d.alloc d.size _⟩
theorem baq(an bn:Int)(w:ω):Calls prog 301 #[ι 9,.agg #[ι 2,ι an],.agg #[ι 2,ι bn]] w λe y=>e=.returned (ee (jf 9 2 an 2 bn))/\κ w y:=by have d:=aa (ef w 2 an 2 bn);go_enter func301,ntmps301;go_wp2;refine bodyPost_ret (dt Tryz.results301 _ _ (w.heap.size+1+1) _ _ _ (by rfl) (cg.dy _ 284 _ _ (by simp))) rfl ⟨jj (by simp[jf,ee]),d.alloc d.size _⟩
theorem a7c(an bn:Int)(w:ω)(h:an=1):Calls prog 301 #[ι 12,.agg #[ι 2,ι an],.agg #[ι 2,ι bn]] w λe J=>e=.returned (ee (jf 12 2 an 2 bn))/\κ w J:=by
 have Z:(an==1)=true:=by simpa using h
 have I:=aa h;clear h;have y:=aa ((ef w 2 an 2 bn).alloc (ef w 2 an 2 bn).size (.cells #[ι 0,ι 0,ι 0] 284));have E:=aa (cg.dy (W2 w 2 an 2 bn) 284 #[ι 0,ι 0,ι 0] (w.heap.size+1+1) (pl w 2 an 2 bn));go_enter func301,ntmps301;go_wp2_with fail;refine(m3 _ _).mono ?_;rintro e w1⟨rfl,d⟩;have F:=aa (y.trans (d.mono y.size));have z:=aa (E.below d E.lt);obtain⟨⟨O,Q,U⟩,V,W,Y⟩:=z.ax;clear d;go_wp2_with fail;refine bodyPost_ret (dt Tryz.results301 _ _ (w.heap.size+1+1) _ _ _ (by rfl) (z.l7 _ _ _)) rfl ⟨jj (by simp[jf,tru,ee,I.out];rfl),((F.setCell (by simp;omega) _).setCell (by simp;omega) _).setCell (by simp;omega) _⟩
theorem a7b(an bn:Int)(w:ω)(h:¬an=1):Calls prog 301 #[ι 12,.agg #[ι 2,ι an],.agg #[ι 2,ι bn]] w λe J=>e=.returned (ee (jf 12 2 an 2 bn))/\κ w J:=by
 have Z:(an==1)=false:=by simpa using h
 have I:=aa h;clear h;have y:=aa ((ef w 2 an 2 bn).alloc (ef w 2 an 2 bn).size (.cells #[ι 0,ι 0,ι 0] 284));have E:=aa (cg.dy (W2 w 2 an 2 bn) 284 #[ι 0,ι 0,ι 0] (w.heap.size+1+1) (pl w 2 an 2 bn));go_enter func301,ntmps301;go_wp2_with fail;refine(m3 _ _).mono ?_;rintro e w1⟨rfl,d⟩;have F:=aa (y.trans (d.mono y.size));have z:=aa (E.below d E.lt);obtain⟨⟨O,Q,U⟩,V,W,Y⟩:=z.ax;clear d;go_wp2_with fail;refine bodyPost_ret (dt Tryz.results301 _ _ (w.heap.size+1+1) _ _ _ (by rfl) (z.l7 _ _ _)) rfl ⟨jj (by simp[jf,tru,ee,I.out]),((F.setCell (by simp;omega) _).setCell (by simp;omega) _).setCell (by simp;omega) _⟩
theorem a69(an bn:Int)(w:ω)(h:an=1):Calls prog 301 #[ι 13,.agg #[ι 2,ι an],.agg #[ι 2,ι bn]] w λe J=>e=.returned (ee (jf 13 2 an 2 bn))/\κ w J:=by
 have Z:(an==1)=true:=by simpa using h
 have I:=aa h;clear h;have y:=aa ((ef w 2 an 2 bn).alloc (ef w 2 an 2 bn).size (.cells #[ι 0,ι 0,ι 0] 284));have E:=aa (cg.dy (W2 w 2 an 2 bn) 284 #[ι 0,ι 0,ι 0] (w.heap.size+1+1) (pl w 2 an 2 bn));go_enter func301,ntmps301;go_wp2_with fail;refine(m3 _ _).mono ?_;rintro e w1⟨rfl,d⟩;have F:=aa (y.trans (d.mono y.size));have z:=aa (E.below d E.lt);obtain⟨⟨O,Q,U⟩,V,W,Y⟩:=z.ax;clear d;go_wp2_with fail;refine bodyPost_ret (dt Tryz.results301 _ _ (w.heap.size+1+1) _ _ _ (by rfl) (z.l7 _ _ _)) rfl ⟨jj (by simp[jf,tru,ee,I.out]),((F.setCell (by simp;omega) _).setCell (by simp;omega) _).setCell (by simp;omega) _⟩
theorem a68(an bn:Int)(w:ω)(h:¬an=1):Calls prog 301 #[ι 13,.agg #[ι 2,ι an],.agg #[ι 2,ι bn]] w λe J=>e=.returned (ee (jf 13 2 an 2 bn))/\κ w J:=by
 have Z:(an==1)=false:=by simpa using h
 have I:=aa h;clear h;have y:=aa ((ef w 2 an 2 bn).alloc (ef w 2 an 2 bn).size (.cells #[ι 0,ι 0,ι 0] 284));have E:=aa (cg.dy (W2 w 2 an 2 bn) 284 #[ι 0,ι 0,ι 0] (w.heap.size+1+1) (pl w 2 an 2 bn));go_enter func301,ntmps301;go_wp2_with fail;refine(m3 _ _).mono ?_;rintro e w1⟨rfl,d⟩;have F:=aa (y.trans (d.mono y.size));have z:=aa (E.below d E.lt);obtain⟨⟨O,Q,U⟩,V,W,Y⟩:=z.ax;clear d;go_wp2_with fail;refine bodyPost_ret (dt Tryz.results301 _ _ (w.heap.size+1+1) _ _ _ (by rfl) (z.l7 _ _ _)) rfl ⟨jj (by simp[jf,tru,ee,I.out];rfl),((F.setCell (by simp;omega) _).setCell (by simp;omega) _).setCell (by simp;omega) _⟩
def wtN(k x y:Int):Option Int :=
 if k=3 then some (wrap64 (x+y)) else if k=4 then some (wrap64 (x-y)) else if k=5 then some (wrap64 (x*y))
 else if k=6 then (if y=0 then none else some (wrap64 (x.tdiv y))) else if k=7 then (if y=0 then none else some (x.tmod y))
 else some (aeb (tv k x y))
def abg:Option Int->Value
 | some n=>.tuple #[ι n,.nilIface]
 | none=>.tuple #[ι 0,.iface 93 (ι 9)]
theorem ado{n:Int}{r:Option Int}(h:r=some n):Ending.returned (.tuple #[ι n,.nilIface])=.returned (abg r):=by rw[h];rfl
theorem arc{r:Option Int}(h:r=none):Ending.returned (.tuple #[ι 0,.iface 93 (ι 9)])=.returned (abg r):=by rw[h];rfl
theorem ayj(k x y:Int)(w:ω)(z:8<=k/\k<=13):Calls prog 288 #[ι k,ι x,ι y] w λe d=>e=.returned (abg (wtN k x y))/\w=d:=by
 have F:=aa (show wtN k x y=some (aeb (tv k x y)) by unfold wtN;rw[ah (by omega),ah (by omega),ah (by omega),ah (by omega),ah (by omega)]);have E:=aa z;have I:(k==3)=false:=by simp;omega
 have J:(k==4)=false:=by simp;omega
 have O:(k==5)=false:=by simp;omega
 have Q:(k==6)=false:=by simp;omega
 have U:(k==7)=false:=by simp;omega
 clear z;go_enter func288,ntmps288;go_wp2_with fail;refine(a0g k x y w E).mono ?_;rintro e d⟨rfl,rfl⟩;go_wp2_with fail;refine(abl _ w).mono ?_;rintro e d⟨rfl,rfl⟩;go_wp2;go_ret2;exact⟨ado F,rfl⟩
theorem a1m(k x y:Int)(w:ω)(z:k=3\/k=4\/k=5):Calls prog 288 #[ι k,ι x,ι y] w λe d=>e=.returned (abg (wtN k x y))/\w=d:=by
 rcases z with rfl | rfl | rfl
 . go_enter func288,ntmps288;go_wp2_with fail;refine(a9t x y w).mono ?_;rintro e d⟨rfl,rfl⟩;go_wp2;go_ret2;exact⟨ado rfl,rfl⟩
 . go_enter func288,ntmps288;go_wp2_with fail;refine(a7j x y w).mono ?_;rintro e d⟨rfl,rfl⟩;go_wp2;go_ret2;exact⟨ado rfl,rfl⟩
 . go_enter func288,ntmps288;go_wp2_with fail;refine(a8r x y w).mono ?_;rintro e d⟨rfl,rfl⟩;go_wp2;go_ret2;exact⟨ado rfl,rfl⟩
theorem ayi(k x y:Int)(w:ω)(F:k=6\/k=7):Calls prog 288 #[ι k,ι x,ι y] w λe d=>e=.returned (abg (wtN k x y))/\w=d:=by
 by_cases E:y=0
 . subst E;rcases F with rfl | rfl
   . go_enter func288,ntmps288;go_wp2_with fail;refine(a5m x w).mono ?_;rintro e d⟨rfl,rfl⟩;go_wp2;go_ret2;exact⟨arc rfl,rfl⟩
   . go_enter func288,ntmps288;go_wp2_with fail;refine(a3y x w).mono ?_;rintro e d⟨rfl,rfl⟩;go_wp2;go_ret2;exact⟨arc rfl,rfl⟩
 . have I:(y==0)=false:=(by simpa using E);have z:=aa E;clear E;rcases F with rfl | rfl
   . go_enter func288,ntmps288;go_wp2_with fail;refine(a9h x y w I z).mono ?_;rintro e d⟨rfl,rfl⟩;go_wp2;go_ret2;exact⟨ado (show wtN 6 x y=some (wrap64 (x.tdiv y)) by unfold wtN;simp[z.out]),rfl⟩
   . go_enter func288,ntmps288;go_wp2_with fail;refine(a8s x y w I z).mono ?_;rintro e d⟨rfl,rfl⟩;go_wp2;go_ret2;exact⟨ado (show wtN 7 x y=some (x.tmod y) by unfold wtN;simp[z.out]),rfl⟩
theorem a1n(k x y:Int)(w:ω)(F:3<=k/\k<=13):Calls prog 288 #[ι k,ι x,ι y] w λe d=>e=.returned (abg (wtN k x y))/\w=d:=by
 by_cases z:k<=5
 . exact a1m k x y w (by omega)
 . by_cases E:k<=7
   . exact ayi k x y w (by omega)
   . exact ayj k x y w (by omega)
theorem a9o{kd d x z y:Int}(U:3<=kd/\kd<=13)(E:sr (.ok d x))(F:sr (.ok z y))(O:tks (py kd).2.1 [d,z]=true) :
 (∀n,wtN kd x y=some n->ag2 false (kd,0,0) (.ok d x) (.ok z y)=.ok (py kd).2.2 n)/\(wtN kd x y=none->ag2 false (kd,0,0) (.ok d x) (.ok z y)=.bad 9):=by
 have I:d=1\/(d=2/\(x=0\/x=1)):=Or.elim E (λh=>.inl h.1) (λh=>.inr h);have J:z=1\/(z=2/\(y=0\/y=1)):=Or.elim F (λh=>.inl h.1) (λh=>.inr h);clear E F;obtain rfl | rfl | rfl | rfl | rfl | rfl | rfl | rfl | rfl | rfl | rfl:kd=3\/kd=4\/kd=5\/kd=6\/kd=7\/kd=8\/kd=9\/kd=10\/kd=11\/kd=12\/kd=13:=by omega
 all_goals
  rcases I with rfl | ⟨rfl,rfl | rfl⟩<;>rcases J with rfl | ⟨rfl,rfl | rfl⟩
  all_goals first
   | exact absurd O (by decide)
   | (by_cases Q:y=0<;>simp[wtN,tv,py,ag2,jf,tru,aeb,Q])
   | simp[wtN,tv,py,ag2,jf,tru,aeb]
theorem at4(t:Tk)(ad U:Value)(env:List Int)(ak k n:Int)(w:ω)(hv:fe w U env)(hl:env.length<=1000)(ht:mh t=0)(hn:t.2.1<=9223372036854775807)(d:og ⟨false,env,ak⟩ t=.ok k n) :
 Calls prog 272 #[.agg #[ι t.1,ι t.2.1,ι t.2.2],ad,U] w λe E=>e=.returned (.tuple #[ι n,.nilIface])/\κ w E:=by
 obtain⟨F,Y,O⟩:=ace ht;obtain⟨kd,x,a⟩:=t;obtain⟨A,al,rfl,hc,z⟩:=hv;simp only at F Y O hn ⊢;subst F;have y:=aa (λW=>(ag w.heap.size w).alloc (ai _) (.cells W 206));rcases O with rfl | ⟨rfl,hx⟩ | ⟨rfl,rfl⟩ | ⟨rfl,rfl⟩
 . obtain rfl:x=n:=(by unfold og at d;simp at d;exact d.2);clear d z;go_enter func272,ntmps272;go_wp2;go_ret2;exact⟨rfl,y _⟩
 . have Q:x.toNat<env.length/\env.getD x.toNat 0=n:=by
    unfold og Md.lim at d;simp at d;by_cases h:x<(env.length:Int)
    . rw[ao h]at d;injection d with _ Z;exact ⟨by omega,by simpa using Z⟩
    . rw[ah h]at d;cases d
   obtain⟨m,rfl⟩:∃m:Nat,x=(m:Int):=⟨x.toNat,by omega⟩;simp only[Int.toNat_natCast]at Q;obtain⟨hm,I⟩:=Q;have J:env[m]?=some n:=(by rw[<-I,List.getD,ae hm];rfl);obtain⟨b,o,rfl,hb,V⟩:=z m n J;have av:(m:Int)<(env.length:Int):=(by omega);have am:¬b=w.heap.size:=(by omega);have c1:=((y #[ι 2,ι (m:Int),ι 0]).cell (p:=(δ b (o+m))) hb).trans V;clear d z I J;go_enter func272,ntmps272;go_wp2;go_ret2;exact⟨rfl,y _⟩
 . obtain rfl:n=1:=(by unfold og tru aeb at d;simp at d;exact d.2.symm);clear d z;go_enter func272,ntmps272;go_wp2_with fail;refine(abl _ _).mono ?_;rintro e E⟨rfl,rfl⟩;go_wp2;go_ret2;exact⟨rfl,y _⟩
 . obtain rfl:n=0:=(by unfold og tru aeb at d;simp at d;exact d.2.symm);clear d z;go_enter func272,ntmps272;go_wp2_with fail;refine(abl _ _).mono ?_;rintro e E⟨rfl,rfl⟩;go_wp2;go_ret2;exact⟨rfl,y _⟩
theorem a1o(t:Tk)(Y:Value)(k n W z:Int)(g q cap:Nat)(w:ω)(V:mh t=1)(O:g<w.heap.size)(J:w.cell? (δ g q)=some (ι n))(d:unV t (.ok k n)=.ok W z) :
 Calls prog 272 #[.agg #[ι t.1,ι t.2.1,ι t.2.2],.slice (some (δ g q)) 1 cap,Y] w λe I=>e=.returned (.tuple #[ι z,.nilIface])/\κ w I:=by
 have y:=aa (λU=>(ag w.heap.size w).alloc (ai _) (.cells U 206));rcases afw V with rfl | rfl
 . have F:z=aeb (n==0):=by
    rw[at8]at d;by_cases h:k=2
    . rw[ao ⟨rfl,h⟩]at d;injection d with _ E;rw[<-E];rfl
    . rw[ah (by omega),ah (by omega)]at d;cases d
   subst F;have Q:=((y #[ι 14,ι 0,ι 0]).cell (p:=(δ g q)) O).trans J;clear d;go_enter func272,ntmps272;go_wp2_with fail;refine(abl _ _).mono ?_;rintro e I⟨rfl,rfl⟩;go_wp2;go_ret2;exact⟨rfl,y _⟩
 . have F:z=wrap64 (-n):=by
    rw[at8]at d;by_cases h:k=1
    . rw[ah (by omega),ao ⟨rfl,h⟩]at d;injection d with _ E;rw[<-E]
    . rw[ah (by omega),ah (by omega)]at d;cases d
   subst F;have Q:=((y #[ι 19,ι 0,ι 0]).cell (p:=(δ g q)) O).trans J;clear d;go_enter func272,ntmps272;go_wp2_with fail;refine(a8q n _).mono ?_;rintro e I⟨rfl,rfl⟩;go_wp2;go_ret2;exact⟨rfl,y _⟩
theorem ayn(kd:Int)(V:Value)(x y:Int)(g q cap:Nat)(w:ω)(F:3<=kd/\kd<=13)(J:g<w.heap.size)(ad:2<=cap)(Q:w.cell? (δ g q)=some (ι x))(U:w.cell? (δ g (q+1))=some (ι y)) :
 Calls prog 272 #[.agg #[ι kd,ι 0,ι 0],.slice (some (δ g q)) 2 cap,V] w λe d=>e=.returned (abg (wtN kd x y))/\κ w d:=by
 have z:=aa (λO=>(ag w.heap.size w).alloc (ai _) (.cells O 206));have Y:=aa F;have Z:=((z #[ι kd,ι 0,ι 0]).cell (p:=(δ g q)) J).trans Q;have c2:=((z #[ι kd,ι 0,ι 0]).cell (p:=(δ g (q+1))) J).trans U;have h1:(kd==1)=false:=by simp;omega
 have h2:(kd==2)=false:=by simp;omega
 have h3:(kd==15)=false:=by simp;omega
 have h4:(kd==16)=false:=by simp;omega
 have h5:(kd==19)=false:=by simp;omega
 have h6:(kd==14)=false:=by simp;omega
 have I:=aa (λW=>a1n kd x y W F);generalize hr:wtN kd x y=r at *;clear F;go_enter func272,ntmps272;go_wp2_with fail;cases r with
 | none =>have E:=aa (λW=>(I W).mono (R':=λe d=>e=.returned (.tuple #[ι 0,.iface 93 (ι 9)])/\d=W) λe d h=>⟨h.1,h.2.symm⟩);go_quiet (first | (go_at_call 288;exact Calls.quiet_of_same (E _)) | fail);go_wp2;go_ret2;exact⟨rfl,bx (z _) _⟩
 | some n =>have E:=aa (λW=>(I W).mono (R':=λe d=>e=.returned (.tuple #[ι n,.nilIface])/\d=W) λe d h=>⟨h.1,h.2.symm⟩);go_quiet (first | (go_at_call 288;exact Calls.quiet_of_same (E _)) | fail);go_wp2;go_ret2;exact⟨rfl,bx (z _) _⟩
def ael(a:Vl)(w:ω)(e:Ending)(d:ω):Prop :=
 κ w d/\match a with
  | .ok k n=>e=.returned (.tuple #[.agg #[ι k,ι n],.nilIface])
  | .bad c=>e=.returned (.tuple #[.agg #[ι 0,ι 0],.iface 93 (ι c)])
theorem jz{E:Func}{r s:Tmp}(J:E.results=#[.cell r 239,.tmp s])(d:Array Value)(w:ω)(g:Nat)(a b:Value)
 (I:d.getD r undef=φ g 0)(F:cg w g 239 #[a,b]) :
 (results E d).run prog w=.ok (.tuple #[.agg #[a,b],d.getD s undef]) w:=by
 have y:=F.cell 0;have z:=F.cell 1;simp at y z I;simp[results,J,I,go_sem,y,z]
theorem cg.eb{w:ω}{g:Nat}{t:TypeId}{x y:Value}(h:cg w g t #[x,y]) :
 (w.cell? (δ g 0)=some x/\w.cell? (δ g 1)=some y)/\(w.frozen? (δ g 0)=false/\w.frozen? (δ g 1)=false):=⟨⟨h.cell 0,h.cell 1⟩,h.frozen 0,h.frozen 1⟩
theorem cg.set2{w:ω}{g:Nat}{t:TypeId}{x y:Value}(h:cg w g t #[x,y])(a b:Value):cg ((w.setCell (δ g 0) a).setCell (δ g 1) b) g t #[a,b]:=(h.ca 0 a).ca 1 b
theorem cg.ai4{w d:ω}{g:Nat}{t:TypeId}{cs:Array Value}{row:Option Nat}(h:cg w g t cs)(y:w.grownBy d row)(z:some g≠row):cg d g t cs:=(y.block g h.lt z).trans h
theorem fe.drewN{w:ω}{v:Value}{xs:List Int}(h:fe w v xs)(n:Nat):fe (w.drewN n) v xs:=h
structure ESt (B:Nat) (w:World) (v u:Value) (S:List Vl):Prop where
 kinds:w.ownsRow (B+1) 3 1 v S.length (bg (jk S))
 nums:w.ownsRow (B+1) 2 1 u S.length (bg (pd S))
 apart:∀j,v.ownBlock=some j->u.ownBlock≠some j
 res:cg w B 239 #[ι 0,ι 0]
theorem ae3{w y:ω}{d:Value}{env:List Int}{B:Nat}(h:fe w d env)(E:Below B w y)(z:w.heap.size<=B):fe y d env:=h.below (E.mono z)
theorem ESt.stepped{B:Nat}{z y:ω}{v u:Value}{S:List Vl}(h:ESt B z v u S){g:Nat}(F:z.grownBy y v.ownBlock)(I:v.ownBlock=some g\/z.heap.size<=g) :
 y.ownsRow (B+1) 2 1 u S.length (bg (pd S))/\u.ownBlock≠some g/\cg y B 239 #[ι 0,ι 0]:=by
 refine⟨h.nums.kept F ?_,?_,h.res.ai4 F (λd=>by have:=(h.kinds.lt B d.symm).1;omega)⟩
 . cases J:u.ownBlock with
   | none=>exact .inl rfl
   | some j=>exact .inr λd=>h.apart j d.symm J
 . rcases I with E | E
   . exact h.apart g E
   . exact λd=>by have:=(h.nums.lt g d).2;omega
theorem ESt.pushed{B g cap:Nat}{E F:ω}{z:Value}{y:List Vl}{k n:Int}{q:Nat}{row:Option Nat}(U:E.ownsRow (B+1) 3 1 (.slice (some (δ g 0)) (q+1) cap) (q+1) (bg (jk y ++ [k])))(W:cg E B 239 #[ι 0,ι 0])
 (I:E.grownBy F row)(O:∀j,row=some j->B+1<=j/\j≠g)(V:F.ownsRow (B+1) 2 1 z (q+1) (bg (pd y) ++ [ι n]))(J:y.length=q)(Y:∀j,z.ownBlock=some j->j≠g) :
 ESt B F (.slice (some (δ g 0)) (q+1) cap) z (.ok k n::y):=by
 refine⟨?_,?_,λj Q d=>Y j d (by simpa [Value.ownBlock] using Q.symm),W.ai4 I (λd=>by have:=(O B d.symm).1;omega)⟩
 . have:=U.kept I (.inr λd=>by have:=(O g (by rw[<-d];rfl)).2;exact this rfl);rw[mu,bm,J];exact this
 . rw[zi,bm,nu,J];exact V
theorem aky{w:ω}{B:Nat}{g q c cap:Nat}{ys d:List Int}(h:w.ownsRow B 2 1 (.slice (some (δ g 0)) (q+c) cap) (q+c) (bg (ys++d)))(z:ys.length=q)(j:Nat)(x:Int)(y:d[j]?=some x):w.cell? (δ g (q+j))=some (ι x):=by refine m6 h (q+j) _ ?_;rw[nu,ga (by rw[pe];omega),pe,z,nm];simp[bg,y]
theorem ESt.below{B:Nat}{w y:ω}{v u:Value}{S:List Vl}(h:ESt B w v u S)(d:κ w y):ESt B y v u S:=⟨bl h.kinds d,bl h.nums d,h.apart,h.res.below d h.res.lt⟩
theorem yl{B g cap q:Nat}{E I:ω}{o:Obj}{u z:Value}{y:List Vl}{k n:Int}(J:E.ownsRow (B+1) 3 1 (.slice (some (δ g 0)) (q+1) cap) (q+1) (bg (jk y ++ [k])))(W:cg E B 239 #[ι 0,ι 0])
 (Q:(E.alloc o).grownBy I u.ownBlock)(Z:∀j,u.ownBlock=some j->B+1<=j)(O:u.ownBlock≠some g)(U:I.ownsRow (B+1) 2 1 z (q+1) (bg (pd y) ++ [ι n]))(V:y.length=q)(Y:z.ownBlock=u.ownBlock\/z.ownBlock=some (E.alloc o).heap.size) :
 ESt B I (.slice (some (δ g 0)) (q+1) cap) z (.ok k n::y):=by
 have ad:=(J.lt g rfl).2;refine ESt.pushed (J.alloc o) (W.alloc o) Q (λj d=>⟨Z j d,λF=>O (by rw[d,F])⟩) U V (λj d F=>?_);subst F;rcases Y with h | h
 . exact O (by rw[<-h,d])
 . rw[d]at h;injection h with h;simp at h;omega
theorem ave(m:Md){t:Tk}(h:mh t=0):∃n,og m t=.ok (py t.1).2.2 n\/og m t=.bad 4:=by
 by_cases d:t.1=2/\m.lim<=t.2.1
 . exact⟨0,.inr (anf d.1 d.2)⟩
 . obtain⟨n,y⟩:=ane (m:=m) h d;exact⟨n,.inl y⟩
theorem a1x{t:Tk}{k:Int}(n:Int)(h:mh t=1)(y:k=1\/k=2):(∃z,unV t (.ok k n)=.ok (py t.1).2.2 z)\/unV t (.ok k n)=.bad 8:=by
 obtain⟨E,F⟩:=awu (n:=n) h y;cases d:tks (py t.1).2.1 [k] with
 | true=>exact .inl (E d)
 | false=>exact .inr (F d)
theorem avf{m:Md}{t:Tk}{P:Prop}(h:mh t=0)(d:(og m t=.bad 9/\P)\/∃n,og m t=.ok (py t.1).2.2 n):∃n,og m t=.ok (py t.1).2.2 n:=by
 rcases d with ⟨d,_⟩ | d
 . obtain⟨n,y | y⟩:=ave m h
   . exact⟨n,y⟩
   . rw[y]at d;cases d
 . exact d
theorem a1y{t:Tk}{k n:Int}{P:Prop}(h:mh t=1)(E:k=1\/k=2)(d:(unV t (.ok k n)=.bad 9/\P)\/∃z,unV t (.ok k n)=.ok (py t.1).2.2 z):∃z,unV t (.ok k n)=.ok (py t.1).2.2 z:=by
 rcases d with ⟨d,_⟩ | d
 . rcases a1x n h E with y | y
   . exact y
   . rw[y]at d;cases d
 . exact d
theorem acj{w:ω}{B:Nat}{e:TypeId}{s n:Nat}{v:Value}{xs:List Value}(h:w.ownsRow B e s v n xs)(d:n≠0):∃g cap,v=.slice (some (δ g 0)) n cap:=by
 rcases h.2 with ⟨_,h⟩ | ⟨a,b,_,h,_⟩
 . omega
 . exact⟨a,b,h⟩
theorem a45(v ve:Value)(ts:List Tk)(env:List Int)(w:ω)(hv:lw w v ts)(hE:fe w ve env)(iv:env.length<=1000)(gx:∀x∈env,uj x)(hn:∀t∈ts,t.2.1<=9223372036854775807)(hm:ae6 ts=true):Calls prog 241 #[v,ve] w (ael (ans ⟨false,env,0⟩ ts) w):=by
 obtain⟨i0,hi,hu,hw,hx⟩:=info_parts Tryz.ah7;have HI:=aa hi;have ds:=aa hu;have dy:=aa hw;have d0:=aa hx;clear hi hu hw hx;have eg:=aa ((ag w.heap.size w).alloc (ai _) (.cells #[ι 0,ι 0] 239));have HM:=aa (ajm v ts _ (hv.below eg) (by have:=(abi hm).1;omega));obtain⟨hl,hV,hs⟩:=ajv ⟨false,env,0⟩ hm;have hd:(⟨false,env,0⟩:Md).lim=(env.length:Int)/\(⟨false,env,0⟩:Md).ty=false:=⟨rfl,rfl⟩;have h6:=aa (λi hi ix=>afr ⟨false,env,0⟩ hn gx i hi ix);have ih:=aa (λt f9 k n W h1 h2 h3 h4=>at4 t f9 ve env 0 k n W h1 iv h2 h3 h4);generalize (⟨false,env,0⟩:Md)=md at *;have d5:=aa hd;have h7:=aa hm;have HV:=aa hV;have db:=aa hs;have HN:=aa hn;have er:=aa hE;have jn:=l3;have ji:=λp W=>aik p W;obtain⟨A,i1,rfl,hc,g0⟩:=hv;have HE:=aa g0;obtain⟨eA,fa,rfl,i9,_⟩:=hE;clear g0 hm hn hV hs hd gx;go_enter func241,ntmps241;go_wp2_with fail;refine HM.mono ?_;rintro e w0⟨rfl,f2⟩;rw[h7.out];have hz:=aa (eg.trans (f2.mono eg.size));have h8:=aa ((cg.new w 239 #[ι 0,ι 0]).below f2 (by simp));clear f2;go_wp2_with fail;go_loopw [6,7,21] (λv u i wr=>∃k:Nat,k<=ts.length/\i=ι (k:Int)/\Hid (fb (vs md ts k)=none)/\κ w wr/\Hid (ESt w.heap.size wr v u (vs md ts k))) (λ_ _ i _=>ts.length-(intOf i).toNat)
 case atStart=>exact ⟨0,ar _,rfl,aa rfl,hz,aa ⟨bd _ _ _ _,bd _ _ _ _,λj d=>by simp[Value.ownBlock]at d,h8⟩⟩
 case round =>
  obtain⟨k,hk,rfl,HF,hb,ev⟩:=hrel;obtain⟨wo,rfl⟩:∃wo:ω,wo=wr:=⟨_,rfl⟩;by_cases d4:k<ts.length
  . obtain⟨b,o,rfl,f3,c0,c1,c2⟩:=HE.out k ts[k] (ae d4);have c0:wo.cell? (δ b (o+k*3))=_:=(hb.cell (p:=(δ b _)) f3).trans c0;have c1:wo.cell? (δ b (o+k*3+1))=_:=(hb.cell (p:=(δ b _)) f3).trans c1;have c2:wo.cell? (δ b (o+k*3+2))=_:=(hb.cell (p:=(δ b _)) f3).trans c2;have hg:ts.getD k (0,0,0)=ts[k]:=(by simp[List.getD,ae d4]);obtain⟨eb,bb⟩:=HV.out k d4;have f8:=acb md ts k hk (HV.mono hk);have f6:=aa3 md d4;have ho:(vs md ts k).length<=100:=(by rw[f8];have:=aof ts k (HV.mono hk);omega);rw[hg]at eb bb f6;rw[<-f8]at bb;have h9:=aa (HN ts[k] (bw d4));generalize ts[k]=t at *;have e0:=aa f6;have gb:=aa ((ag wo.heap.size wo).alloc (ai _) (.cells #[ι t.1,ι t.2.1,ι t.2.2] 206));have a3:=aa (ev.below gb);have a5:=aa (hb.trans (gb.mono hb.size));have e4:=aa (cg.new wo 206 #[ι t.1,ι t.2.1,ι t.2.2]);have c4:=aa (λj d=>(ev.kinds.lt j d));have ex:=aa (h6 k hk (HV.mono hk));have c5:w.heap.size+1<=(wo.alloc (.cells #[ι t.1,ι t.2.1,ι t.2.2] 206)).heap.size:=(by simp;have:=hb.size;omega);generalize il:vs md ts k=I at *;clear hg f6 f8 il;rcases ot t with c | c | c | c
    . omega
    . have b2:=aa (am2 md t (w.heap.size+1) _ I _ a3.kinds (by omega) c5 c);rw[d5.out.1]at b2;have HC:=aa c;have V:=aa (e0.trans (aep I c));clear bb eb c c5;go_wp2_with fail;refine b2.mono ?_;rintro e w1(⟨cc,b7,d1,rfl,a9⟩ | ⟨co,g,fg,he,al,ba,b6,d3⟩)
      . have HA:=aa (ag3 md HV (show k+1<=ts.length by omega) db (V.trans (by rw[b7])) HF);have HX:=aa (a5.trans (a9.mono a5.size));have b4:=aa (a3.res.below a9 a3.res.lt);obtain⟨⟨r0,r1⟩,f0,f1⟩:=b4.eb;clear a9 b7 d1;go_wp2_with fail;refine bodyPost_ret (jz Tryz.results241 _ _ w.heap.size _ _ (by rfl) (b4.set2 _ _)) rfl ⟨(HX.setCell (by simp) _).setCell (by simp) _,?_⟩;rw[HA.out];rfl
      . have f7:∃n,og md t=.ok (py t.1).2.2 n:=avf HC co;obtain⟨n,cv⟩:=f7;generalize hq:I.length=q;have hh:q<=100:=(by omega);have HQ:=aa hq;have cl:=aa (show (pd I).length=q by rw[ae4];exact hq);have b8:(jk I ++ [(py t.1).2.2]).length=q+1:=(by rw[aw,k8,hq];rfl);rw[b8]at he ba;subst he;obtain⟨ax,b9,ca⟩:=a3.stepped al b6;rw[hq]at ax;have J:=aa ax;have ci:=aa b9;have ad:=aa ca;have cb:=aa ba;have Y:=aa (a5.grown al a5.size (λj d=>by have:=(c4 j d).1;omega));have b5:=aa (e4.ai4 al (λhc=>by have:=(c4 _ hc.symm).2;omega));have gl:=aa (λj d=>(J.lt j d).1);obtain⟨⟨a0,a1,a2⟩,_⟩:=b5.ax;have el:=aa (ae3 er Y (ai _));have ht:wo.heap.size<w1.heap.size:=b5.lt;clear b8 al ba b6 d3 ax b9 ca co hq;have HW:=aa (λf9=>ih t f9 _ n w1.drew (el.drewN 1) HC h9 cv);have b3:=aa cv;clear cv;have it:=J.2;rcases it with ⟨rfl,h0⟩ | ⟨gu,z,i2,rfl,_,_,gv,_⟩
        . obtain rfl:q=0:=h0;go_wp2_with fail;first
           | (go_region_with (go_at_call 272;refine (HW _).mono ?_;rintro e O⟨rfl,Z⟩;have E:=aa Z;clear Z))
           | fail
          have F:=aa (Y.drew.trans (E.mono Y.size));have a4:=aa ((ad.drewN 1).below E ad.lt);have bs:=aa (bl cb.drew E);have Q:=aa (bl (J.drew) E);have bt:=aa (show 0+1<=maxLen by unfold maxLen;omega);have b0:=aa (show (0+1)*8<=140737488355328 by omega);have b1:=aa (show ∀o:Obj,w.heap.size+1<=(O.alloc o).heap.size from λo=>by simp;exact F.size);go_wp2_with (at_builtin;refine wpList_append_own_at _ rfl _ _ 35 rfl (w.heap.size+1) 2 i0 (ι 0) 1 8 underlying35 HI ds dy d0 rfl (by decide) _ _ _ rfl (Q.alloc _) (δ O.heap.size 0) 1 1 [ι n] rfl rfl (acy O n 2) (fl n) bt b0 (b1 _) ?_;intro u' w3 am U _ av);have HG:=aa ((F.alloc F.size _).grown U (by simp;have:=F.size;omega) (λj d=>by have:=(Q.lt j d).1;omega));have bf:=aa (yl bs a4 U (λj d=>(Q.lt j d).1) (λhc=>ci hc) am HQ av);clear am U av;go_wp2;go_roundw
          case rel =>
           refine⟨k+1,by omega,by go_num,aa ?_,HG,aa ?_⟩
           . rw[V.out,b3.out,ox,HF.out];rfl
           . rw[V.out,b3.out];exact bf
          case measure=>simp[intOf];omega
        . by_cases io:z=q
          . subst io;go_wp2_with fail;first
             | (go_region_with (go_at_call 272;refine (HW _).mono ?_;rintro e O⟨rfl,Z⟩;have E:=aa Z;clear Z))
             | fail
            have F:=aa (Y.drew.trans (E.mono Y.size));have a4:=aa ((ad.drewN 1).below E ad.lt);have bs:=aa (bl cb.drew E);have Q:=aa (bl (J.drew) E);have bt:=aa (show z+1<=maxLen by unfold maxLen;omega);have b0:=aa (show (z+1)*8<=140737488355328 by omega);have b1:=aa (show ∀o:Obj,w.heap.size+1<=(O.alloc o).heap.size from λo=>by simp;exact F.size);go_wp2_with (at_builtin;refine wpList_append_own_at _ rfl _ _ 35 rfl (w.heap.size+1) 2 i0 (ι 0) 1 8 underlying35 HI ds dy d0 rfl (by decide) _ _ _ rfl (Q.alloc _) (δ O.heap.size 0) 1 1 [ι n] rfl rfl (acy O n 2) (fl n) bt b0 (b1 _) ?_;intro u' w3 am U _ av);have HG:=aa ((F.alloc F.size _).grown U (by simp;have:=F.size;omega) (λj d=>by have:=(Q.lt j d).1;omega));have bf:=aa (yl bs a4 U (λj d=>(Q.lt j d).1) (λhc=>ci hc) am HQ av);clear am U av;go_wp2;go_roundw
            case rel =>
             refine⟨k+1,by omega,by go_num,aa ?_,HG,aa ?_⟩
             . rw[V.out,b3.out,ox,HF.out];rfl
             . rw[V.out,b3.out];exact bf
            case measure=>simp[intOf];omega
          . have i4:q < z:=(by omega);have e5:(q:Int)<=(q:Int):=(by omega);have e1:¬ z=q:=(by omega);have e2:(z == q)=false:=(by simp; omega);have e3:¬ (z:Int)=(q:Int):=(by omega);have e6:(q:Int) < (z:Int):=(by omega);have e8:¬ z<=q:=(by omega);have e9:¬ q=z:=(by omega);have gs:q<=z:=(by omega);go_wp2_with fail;first
             | (go_region_with (go_at_call 272;refine (HW _).mono ?_;rintro e O⟨rfl,Z⟩;have E:=aa Z;clear Z))
             | fail
            have F:=aa (Y.drew.trans (E.mono Y.size));have a4:=aa ((ad.drewN 1).below E ad.lt);have bs:=aa (bl cb.drew E);have Q:=aa (bl (J.drew) E);have bt:=aa (show q+1<=maxLen by unfold maxLen;omega);have b0:=aa (show (q+1)*8<=140737488355328 by omega);have b1:=aa (show ∀o:Obj,w.heap.size+1<=(O.alloc o).heap.size from λo=>by simp;exact F.size);go_wp2_with (at_builtin;refine wpList_append_own_at _ rfl _ _ 35 rfl (w.heap.size+1) 2 i0 (ι 0) 1 8 underlying35 HI ds dy d0 rfl (by decide) _ _ _ rfl (Q.alloc _) (δ O.heap.size 0) 1 1 [ι n] rfl rfl (acy O n 2) (fl n) bt b0 (b1 _) ?_;intro u' w3 am U _ av);have HG:=aa ((F.alloc F.size _).grown U (by simp;have:=F.size;omega) (λj d=>by have:=(Q.lt j d).1;omega));have bf:=aa (yl bs a4 U (λj d=>(Q.lt j d).1) (λhc=>ci hc) am HQ av);clear am U av;go_wp2;go_roundw
            case rel =>
             refine⟨k+1,by omega,by go_num,aa ?_,HG,aa ?_⟩
             . rw[V.out,b3.out,ox,HF.out];rfl
             . rw[V.out,b3.out];exact bf
            case measure=>simp[intOf];omega
    . rcases I with _ | ⟨x,I⟩
      . rw[c]at bb;simp at bb
      . obtain⟨⟨xk,xn,rfl⟩,d2⟩:=mx HF;have c3:=aa d2;have gk:=aa (qz (ex (.ok xk xn) (by simp)));rw[bm]at ho;have b2:=aa (aw0 md t (w.heap.size+1) _ xk xn I _ (by have:=a3.kinds;rw[mu]at this;exact this) (by omega) c5 c gk);rw[d5.out.1]at b2;have HC:=aa c;have V:=aa (e0.trans (aeo (.ok xk xn) I c));clear bb eb c c5 d2;go_wp2_with fail;refine b2.mono ?_;rintro e w1(⟨cc,b7,d1,rfl,a9⟩ | ⟨co,g,fg,he,al,ba,b6,d3⟩)
        . have HA:=aa (ag3 md HV (show k+1<=ts.length by omega) db (V.trans (by rw[b7])) c3);have HX:=aa (a5.trans (a9.mono a5.size));have b4:=aa (a3.res.below a9 a3.res.lt);obtain⟨⟨r0,r1⟩,f0,f1⟩:=b4.eb;clear a9 b7 d1;go_wp2_with fail;refine bodyPost_ret (jz Tryz.results241 _ _ w.heap.size _ _ (by rfl) (b4.set2 _ _)) rfl ⟨(HX.setCell (by simp) _).setCell (by simp) _,?_⟩;rw[HA.out];rfl
        . have f7:∃ n,unV t (.ok xk xn)=.ok (py t.1).2.2 n:=a1y HC gk co;obtain ⟨n,cv⟩:=f7;generalize hq:I.length=q;have hh:q<=100:=(by omega);have HQ:=aa hq;have cl:=aa (show (pd I).length=q by rw [ae4]; exact hq);have b8:(jk I ++ [(py t.1).2.2]).length=q+1:=(by rw [aw,k8,hq]; rfl);rw [b8] at he ba;subst he;obtain ⟨ax,b9,ca⟩:=a3.stepped al b6;rw [zi,bm] at ax;rw [hq] at ax;have J:Hid (w1.ownsRow (w.heap.size+1) 2 1 _ (q+1) (bg (pd I ++ [xn]))):=aa ax;have ci:=aa b9;have ad:=aa ca;have cb:=aa ba;have Y:=aa (a5.grown al a5.size (λj d=>by have:=(c4 j d).1; omega));have b5:=aa (e4.ai4 al (λhc=>by have:=(c4 _ hc.symm).2; omega));have gl:=aa (λj d=>(J.lt j d).1);obtain ⟨⟨a0,a1,a2⟩,_⟩:=b5.ax;have el:=aa (ae3 er Y (ai _));have ht:wo.heap.size < w1.heap.size:=b5.lt;obtain ⟨gu,z,f4⟩:=acj J (by simp);subst f4;clear b8 al ba b6 d3 ax b9 ca co hq;have ek:=aa (show w1.cell? (δ gu q)=some (ι xn) from aky (c:=1) J cl 0 xn rfl);have f5:gu < w1.heap.size:=(J.lt gu rfl).2;have HW:=aa (a1o t (.slice eA env.length fa) xk xn _ n gu q (z - q) w1.drew HC f5 ek cv);have b3:=aa cv;clear cv;have gv:=adr J;have e5:(q:Int)<=(q:Int)+1:=(by omega);have e1:¬ z=q:=(by omega);have e2:(z == q)=false:=(by simp; omega);have e3:¬ (z:Int)=(q:Int):=(by omega);have e6:(q:Int) < (z:Int):=(by omega);have e7:q < z:=(by omega);have e8:¬ z<=q:=(by omega);have e9:¬ q=z:=(by omega);have gs:q<=z:=(by omega);go_wp2_with fail;first
           | (go_region_with (go_at_call 272;refine (HW).mono ?_;rintro e O⟨rfl,Z⟩;have E:=aa Z;clear Z))
           | fail
          have F:=aa (Y.drew.trans (E.mono Y.size));have a4:=aa ((ad.drewN 1).below E ad.lt);have bs:=aa (bl cb.drew E);have Q:=aa (akv (k:=q) (ys:=bg (pd I)) (bl (J.drew) E) (by rw[pe];exact cl) ⟨_,nu _ _⟩);have bt:=aa (show q+1<=maxLen by unfold maxLen;omega);have b0:=aa (show (q+1)*8<=140737488355328 by omega);have b1:=aa (show ∀o:Obj,w.heap.size+1<=(O.alloc o).heap.size from λo=>by simp;exact F.size);go_wp2_with (at_builtin;refine wpList_append_own_at _ rfl _ _ 35 rfl (w.heap.size+1) 2 i0 (ι 0) 1 8 underlying35 HI ds dy d0 rfl (by decide) _ _ _ rfl (Q.alloc _) (δ O.heap.size 0) 1 1 [ι n] rfl rfl (acy O n 2) (fl n) bt b0 (b1 _) ?_;intro u' w3 am U _ av);have HG:=aa ((F.alloc F.size _).grown U (by simp;have:=F.size;omega) (λj d=>by have:=(Q.lt j d).1;omega));have bf:=aa (yl bs a4 U (λj d=>(Q.lt j d).1) (λhc=>ci hc) am HQ av);clear am U av;go_wp2;go_roundw
          case rel =>
           refine⟨k+1,by omega,by go_num,aa ?_,HG,aa ?_⟩
           . rw[V.out,b3.out,ox,c3.out];rfl
           . rw[V.out,b3.out];exact bf
          case measure=>simp[intOf];omega
    . rcases I with _ | ⟨x,_ | ⟨y,I⟩⟩
      . rw[c]at bb;simp at bb
      . rw[c]at bb;simp at bb
      . obtain⟨⟨bk,bn,rfl⟩,d2⟩:=mx HF;obtain⟨⟨ak,an,rfl⟩,g3⟩:=mx d2;have c3:=aa g3;have gg:=aa (ex (.ok ak an) (by simp));have gi:=aa (ex (.ok bk bn) (by simp));rw[bm,bm]at ho;have b2:=aa (aqu md t (w.heap.size+1) _ ak an bk bn I _ (by have:=a3.kinds;rw[mu,mu,j4]at this;exact this) (by omega) c5 c (qz gg) (qz gi));rw[d5.out.1]at b2;have HC:=aa c;have V:=aa (e0.trans (aen (.ok bk bn) (.ok ak an) I c));rw[d5.out.2]at V b2;clear bb eb c c5 d2 g3;go_wp2_with fail;refine b2.mono ?_;rintro e w1⟨(⟨cc,b7,d1,rfl,a9⟩ | ⟨co,g,fg,he,al,ba,b6,d3⟩),hf⟩
        . have HA:=aa (ag3 md HV (show k+1<=ts.length by omega) db (V.trans (by rw[b7])) c3);have HX:=aa (a5.trans (a9.mono a5.size));have b4:=aa (a3.res.below a9 a3.res.lt);obtain⟨⟨r0,r1⟩,f0,f1⟩:=b4.eb;clear a9 b7 d1;go_wp2_with fail;refine bodyPost_ret (jz Tryz.results241 _ _ w.heap.size _ _ (by rfl) (b4.set2 _ _)) rfl ⟨(HX.setCell (by simp) _).setCell (by simp) _,?_⟩;rw[HA.out];rfl
        . have hp:tks (py t.1).2.1 [ak,bk]=true:=by
           cases h:tks (py t.1).2.1 [ak,bk] with
           | true=>rfl
           | false =>
            have h2:=(hf h).1
            rw[he]at h2
            cases h2
          have ib:=aa hp;clear hp hf;generalize hq:I.length=q;have hh:q<=100:=(by omega);have HQ:=aa hq;have cl:=aa (show (pd I).length=q by rw[ae4];exact hq);have b8:(jk I ++ [(py t.1).2.2]).length=q+1:=(by rw[aw,k8,hq];rfl);rw[b8]at he ba;subst he;obtain⟨ax,b9,ca⟩:=a3.stepped al b6;rw[zi,zi,j4,bm,bm]at ax;rw[hq]at ax;have J:Hid (w1.ownsRow (w.heap.size+1) 2 1 _ (q+2) (bg (pd I ++ [an,bn]))):=aa ax;have ci:=aa b9;have ad:=aa ca;have cb:=aa ba;have Y:=aa (a5.grown al a5.size (λj d=>by have:=(c4 j d).1;omega));have b5:=aa (e4.ai4 al (λhc=>by have:=(c4 _ hc.symm).2;omega));have gl:=aa (λj d=>(J.lt j d).1);obtain⟨⟨a0,a1,a2⟩,_⟩:=b5.ax;have el:=aa (ae3 er Y (ai _));have ht:wo.heap.size<w1.heap.size:=b5.lt;obtain⟨gu,z,f4⟩:=acj J (by simp);subst f4;clear b8 al ba b6 d3 ax b9 ca co hq;have ek:=aa (show w1.cell? (δ gu q)=some (ι an) from aky (c:=2) J cl 0 an rfl);have h5:=aa (show w1.cell? (δ gu (q+1))=some (ι bn) from aky (c:=2) J cl 1 bn rfl);have f5:gu<w1.heap.size:=(J.lt gu rfl).2;obtain⟨kd,rfl,ha,g4⟩:=afv HC;obtain⟨fu,fv⟩:=a9o ⟨ha,g4⟩ gg gi ib;have c7:=λve=>ayn kd ve an bn gu q (z-q) w1.drew ⟨ha,g4⟩ f5 (by have:=adr J;omega) ek h5;have gv:=adr J;have e5:(q:Int)<=(q:Int)+2:=(by omega);have e1:¬z=q:=(by omega);have e2:(z==q)=false:=(by simp;omega);have e3:¬(z:Int)=(q:Int):=(by omega);have e6:(q:Int)<(z:Int):=(by omega);have e7:q<z:=(by omega);have e8:¬z<=q:=(by omega);have e9:¬q=z:=(by omega);have gs:q<=z:=(by omega);cases hr:wtN kd an bn with
          | some n =>
           rw[hr]at c7;have HW:=aa (c7 (.slice eA env.length fa));have d6:=aa (fu n hr);clear c7 fu fv hr;unfold abg at HW;go_wp2_with fail;first
            | (go_region_with (go_at_call 272;refine (HW).mono ?_;rintro e O⟨rfl,Z⟩;have E:=aa Z;clear Z))
            | fail
           have F:=aa (Y.drew.trans (E.mono Y.size));have a4:=aa ((ad.drewN 1).below E ad.lt);have bs:=aa (bl cb.drew E);have Q:=aa (akv (k:=q) (ys:=bg (pd I)) (bl (J.drew) E) (by rw[pe];exact cl) ⟨_,nu _ _⟩);have bt:=aa (show q+1<=maxLen by unfold maxLen;omega);have b0:=aa (show (q+1)*8<=140737488355328 by omega);have b1:=aa (show ∀o:Obj,w.heap.size+1<=(O.alloc o).heap.size from λo=>by simp;exact F.size);go_wp2_with (at_builtin;refine wpList_append_own_at _ rfl _ _ 35 rfl (w.heap.size+1) 2 i0 (ι 0) 1 8 underlying35 HI ds dy d0 rfl (by decide) _ _ _ rfl (Q.alloc _) (δ O.heap.size 0) 1 1 [ι n] rfl rfl (acy O n 2) (fl n) bt b0 (b1 _) ?_;intro u' w3 am U _ av);have HG:=aa ((F.alloc F.size _).grown U (by simp;have:=F.size;omega) (λj d=>by have:=(Q.lt j d).1;omega));have bf:=aa (yl bs a4 U (λj d=>(Q.lt j d).1) (λhc=>ci hc) am HQ av);clear am U av;go_wp2;go_roundw
           case rel =>
            refine⟨k+1,by omega,by go_num,aa ?_,HG,aa ?_⟩
            . rw[V.out,d6.out,ox,c3.out];rfl
            . rw[V.out,d6.out];exact bf
           case measure=>simp[intOf];omega
          | none =>
           rw[hr]at c7;have HW:=aa (c7 (.slice eA env.length fa));have d6:=aa (fv hr);clear c7 fu fv hr;unfold abg at HW;have HA:=aa (ag3 md HV (show k+1<=ts.length by omega) db (V.trans (by rw[d6.out])) c3);go_wp2_with fail;first
            | (go_region_with (go_at_call 272;refine (HW).mono ?_;rintro e O⟨rfl,Z⟩;have E:=aa Z;clear Z))
            | fail
           have F:=aa (Y.drew.trans (E.mono Y.size));have a4:=aa ((ad.drewN 1).below E ad.lt);obtain⟨⟨r0,r1⟩,f0,f1⟩:=a4.eb;go_wp2_with fail;refine bodyPost_ret (jz Tryz.results241 _ _ w.heap.size _ _ (by rfl) (a4.set2 _ _)) rfl ⟨(F.setCell (by simp) _).setCell (by simp) _,?_⟩;rw[HA.out];rfl
  . obtain rfl:k=ts.length:=(by omega);have hF:=HF.out;have hO:=ev.out;rw [db.out] at hF hO;obtain ⟨⟨kk,nn,fn⟩,_⟩:=mx hF;rw [fn] at hO;have HO:=aa hO;obtain ⟨g,fg,rfl⟩:=ky hO.kinds;obtain ⟨gu,z,rfl⟩:=ky hO.nums;have i3:wo.cell? (δ g 0)=some (ι kk):=m6 hO.kinds 0 _ (by simp [bg,jk,Vl.kind]);have i5:wo.cell? (δ gu 0)=some (ι nn):=m6 hO.nums 0 _ (by simp [bg,pd,Vl.num]);obtain ⟨⟨r0,r1⟩,f0,f1⟩:=hO.res.eb;have hy:=aa fn;clear hF hO fn;go_wp2_with fail;go_region;all_goals
     go_wp2_with fail
     refine bodyPost_ret (jz Tryz.results241 _ _ w.heap.size _ _ (by rfl) ((HO.res.drewN 1).set2 _ _)) rfl ⟨((bx hb 1).setCell (by simp) _).setCell (by simp) _,?_⟩
     rw[hy.out]
     rfl
end Go.Proofs.YtpekhdfmmkmjaaaGreatDoor
