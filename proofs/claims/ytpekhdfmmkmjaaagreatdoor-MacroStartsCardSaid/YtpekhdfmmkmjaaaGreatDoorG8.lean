/- Texts of the proof, put together. -/
import Derived.Test.YtpekhdfmmkmjaaaGreatDoorG7
namespace Go.Proofs.YtpekhdfmmkmjaaaGreatDoor
set_option maxHeartbeats 8000000
set_option maxRecDepth 100000
set_option linter.unusedVariables false
open Go.Proofs.Tryz
open Go.ChangeShapes Go.WideShapes Go.ChangeAt Go.RowKit
def qq:Nat->(Nat->Bool)->Nat
 | 0,_=>0
 | n+1,b=>qq n b+if b n=true then 0 else 1
theorem zp:∀(n:Nat){b d:Nat->Bool},Le b d->qq n d<=qq n b
 | 0,_,_,_=>ai _
 | n+1,b,d,h=>by
  have:=zp n h;rw[qq,qq];by_cases y:b n=true
  . rw[ao y,ao (h n y)];omega
  . rw[ah y];split<;>omega
theorem apv:∀(n:Nat){b:Nat->Bool}{k:Nat},k<n->b k=false->qq n (de b (k:Int))<qq n b
 | 0,_,_,h,_=>by omega
 | n+1,b,k,h,d=>by
  rw[qq,qq];by_cases z:k=n
  . subst z;have:=zp k (afa b (k:Int));rw[ao (by simp[de]),ah (by rw[d];simp)];omega
  . have:=apv n (k:=k) (by omega) d;have y:de b (k:Int) n=b n:=(by unfold de;have:¬((n:Int)=(k:Int)):=(by omega);simp[this]);rw[y];omega
theorem atm:∀(n:Nat),qq n (λ_=>false)=n
 | 0=>rfl
 | n+1=>by rw[qq,atm n];simp
theorem ajq{α:Type}(G:Bs->α->Bs)(h:∀st x,Le st.b (G st x).b):∀(L:List α)(st:Bs),Le st.b (L.foldl G st).b
 | [],st=>Le.refl _
 | x::L,st=>(h st x).trans (ajq G h L _)
section
variable {S:List St} {F:Bs→Int→Bs} (h:∀ st x,Le st.b (F st x).b)
include h
theorem avj(st:Bs)(k:Int):Le st.b (ke (tB S) F st k).b:=by
 unfold ke;split
 . exact Le.refl _
 . exact h st k
theorem ao8(p:Int)(st:Bs):Le st.b (ym S (tB S) F p st).b:=ajq _ (λst k=>avj h st k) _ _
theorem ayv(st:Bs)(p:Int):Le st.b (zu S (tB S) adB F st p).b:=by
 unfold zu;split
 . exact ao8 h p (adB st p)
 . exact Le.refl _
theorem an8(d:Int):∀(L:List Int)(st:Bs),Le st.b (upW S (tB S) adB F d L st).b
 | [],st=>Le.refl _
 | p::L,st=>by
  rw[upW];split
  . exact Le.refl _
  . exact(ayv h st p).trans (an8 d L _)
theorem a54(l:List Int)(d:Int)(st:Bs):Le st.b (al2 S (tB S) adB F l d st).b:=(ajq F h l st).trans (ajq _ (λst s=>an8 h d _ st) l _)
end
theorem agf(S:List St)(H:List Nat):∀(f:Nat)(st:Bs)(s:Int),Le st.b (pB S H f st s).b
 | 0,st,s=>Le.refl _
 | f+1,st,s=>by
  rw[pB];split
  . exact Le.refl _
  . split
    . exact Le.trans (B:=de st.b s) (afa st.b s) (a54 (agf S H f) _ _ ⟨_,de st.b s⟩)
    . split
      . exact Le.trans (B:=de st.b s) (afa st.b s) (a54 (agf S H f) _ _ ⟨_,de st.b s⟩)
      . split
        . exact Le.trans (B:=de st.b s) (afa st.b s) (ao8 (agf S H f) _ ⟨_,de st.b s⟩)
        . exact afa st.b s
theorem abk{w:ω}{r:Option Nat}:w.grownBy w r:=⟨rfl,rfl,rfl,ai _,λ_ _ _=>rfl⟩
theorem afc{w d:ω}{g:Nat}(h:w.grownBy d (some g))(j:Nat)(u:Value):w.grownBy (d.setCell (δ g j) u) (some g) :=
 ⟨h.os,h.tape,h.output,a6 h.size (by simp[World.setCell]),λk z y=>(cz d (δ g j) u k (λe=>y (by rw[e]))).trans (h.block k z y)⟩
theorem sh{w d y:ω}{r:Option Nat}(h:w.grownBy d r)(z:κ d y):w.grownBy y r:=h.trans (gc z r)
theorem mw{w d:ω}{r:Option Nat}(h:w.grownBy d r):w.grownBy d.drew r:=⟨h.os,h.tape,h.output,h.size,h.block⟩
structure Ent (w0:World) (t:Nat) (vs vh:Value) (C:Ch) (H:List Nat):Prop where
 tree:fs w0 t C
 ab:te w0 vs C.ab
 au:km w0 vh H
 root:p8 C.ab
 len:C.ab.length<=24
 hlen:H.length<=1000
 ofl:∀s,(za C.ab H s).length<=1000
 ip:∀s,c6 C.ab s=true->(aq C.ab s).ip.length<=1000
structure EAt (w0:World) (t:Nat) (vs vh:Value) (n:Nat) (st:Bs) (w:World):Prop where
 below:κ w0 w
 blk:cg w w0.heap.size 196 #[vs,vh,φ t 0,.int .u32 ((bset st.a n:Nat):Int),.int .u32 ((bset st.b n:Nat):Int)]
def ah5(w0:ω)(t:Nat)(vs vh:Value)(n:Nat)(st:Bs)(w:ω)(e:Ending)(d:ω):Prop :=
 e=.returned (.tuple #[])/\w.grownBy d (some w0.heap.size)/\EAt w0 t vs vh n st d
section
variable {w0:World} {t:Nat} {vs vh:Value} {n:Nat} {st:Bs} {w:World}
theorem EAt.lt(h:EAt w0 t vs vh n st w):w0.heap.size<w.heap.size:=h.blk.lt
theorem EAt.kept{y:ω}(h:EAt w0 t vs vh n st w)(d:κ w y):EAt w0 t vs vh n st y:=⟨h.below.trans (d.mono h.below.size),h.blk.below d h.blk.lt⟩
theorem EAt.drew(h:EAt w0 t vs vh n st w):EAt w0 t vs vh n st w.drew:=⟨h.below.drew,h.blk⟩
theorem EAt.put(h:EAt w0 t vs vh n st w)(s:Int):EAt w0 t vs vh n (adB st s) (w.setCell (δ w0.heap.size 3) (.int .u32 ((bset (de st.a s) n:Nat):Int))):=⟨h.below.setCell (ai _) _,h.blk.ca 3 _⟩
theorem EAt.mark(h:EAt w0 t vs vh n st w)(s:Int):EAt w0 t vs vh n ⟨st.a,de st.b s⟩ (w.setCell (δ w0.heap.size 4) (.int .u32 ((bset (de st.b s) n:Nat):Int))):=⟨h.below.setCell (ai _) _,h.blk.ca 4 _⟩
theorem EAt.cells(h:EAt w0 t vs vh n st w):(w.cell? (δ w0.heap.size 0)=some vs/\w.cell? (δ w0.heap.size 1)=some vh/\w.cell? (δ w0.heap.size 2)=some (φ t 0))/\w.cell? (δ w0.heap.size 3)=some (.int .u32 ((bset st.a n:Nat):Int))/\w.cell? (δ w0.heap.size 4)=some (.int .u32 ((bset st.b n:Nat):Int)):=⟨⟨h.blk.cell 0,h.blk.cell 1,h.blk.cell 2⟩,h.blk.cell 3,h.blk.cell 4⟩
end
theorem a08(S:List St)(A:Nat->Bool)(x:Int)(J:S.length<=24):(bits .and .u32 ((bset A S.length:Nat):Int) ((belowN S x:Nat):Int)==0)=!am3 S A x:=by
 unfold belowN;rw[(bits_nat .u32 32 (by decide) o4 _ _ (fy A (by omega)) (fy _ (by omega))).1,atp];unfold am3;have z:=aau (λy=>A y&&gz S x y) S.length;have I:(List.range S.length).any (λy=>A y&&gz S x y)=(List.range S.length).any (λy=>A y&&(jc S (y:Int) x&&!ct (aq S (y:Int)).kind)):=rfl;rw[<-I];cases d:(List.range S.length).any (λy=>A y&&gz S x y) with
 | false=>rw[z.2 d];rfl
 | true =>
  refine fw λh=>?_;have E:bset (λy=>A y&&gz S x y) S.length=0:=by omega
  rw[z.1 E]at d;cases d
theorem ak6(S:List St)(p:Int):(lj S p).length<=S.length:=aam S p _
theorem az7(S:List St)(p:Int):agk S (cm (bset (vw S p) S.length))=lj S p:=a00 S _
def aha(w0:ω)(t:Nat)(vs vh:Value)(C:Ch)(H:List Nat)(f:Nat):Prop :=
 ∀(s:Int)(st:Bs)(w:ω),EAt w0 t vs vh C.ab.length st w->qq C.ab.length st.b<=f->Calls prog 163 #[φ w0.heap.size 0,ι s] w (ah5 w0 t vs vh C.ab.length (pB C.ab H f st s) w)
theorem ai0{w0:ω}{t:Nat}{vs vh:Value}{C:Ch}{H:List Nat}{f:Nat}(hN:Ent w0 t vs vh C H)(hF:aha w0 t vs vh C H f)(p:Int)(st:Bs)(w:ω)(hp:c6 C.ab p=true)(hE:EAt w0 t vs vh C.ab.length st w)(hc:qq C.ab.length st.b<=f) :
 Calls prog 223 #[φ w0.heap.size 0,ι p] w (ah5 w0 t vs vh C.ab.length (ym C.ab (tB C.ab) (pB C.ab H f) p st) w):=by
 have y:=aa hN;have HF:=aa hF;have HP:=aa hp;have I:=aa hE;have J:Hid (ym C.ab (tB C.ab) (pB C.ab H f) p st=(lj C.ab p).foldl (ke (tB C.ab) (pB C.ab H f)) st):=aa rfl;generalize ym C.ab (tB C.ab) (pB C.ab H f) p st=R at *;clear hN hF hp hE;go_enter func223,ntmps223;go_wp2_with fail;refine cr (λW=>W.cell? (δ w0.heap.size 0)=some vs/\W.cell? (δ w0.heap.size 1)=some vh/\W.cell? (δ w0.heap.size 2)=some (φ t 0)) [] ?_;have O:Hid (EAt w0 t vs vh C.ab.length st w.drew):=aa I.out.drew;refine af 0 (φ w0.heap.size 0) ?_;refine af 1 (φ w0.heap.size 0) ?_;refine af 2 (φ w0.heap.size 0) ?_;refine a7 3 (.agg #[vs,vh]) (O.out.cells.1) ?_;refine af 4 (φ w0.heap.size 0) ?_;refine af 5 (φ w0.heap.size 0) ?_;refine af 6 (φ w0.heap.size 2) ?_;refine a7 7 (φ t 0) (O.out.cells.1) ?_;refine af 8 (ι p) ?_;refine af 12 (ι 0) ?_;try simp only[Act.put,sx]
 refine a8 9 (λK E=>?_);go_simp;refine(ahi t p C _ (y.out.tree.below O.out.below) (by have:=y.out.len;omega) HP.out).mono ?_;rintro e w1⟨rfl,al⟩;have Q:=aa (O.out.kept al);have a0:=aa al;clear al;go_simp;refine E.out _ _ (λ_ hS=>Q.out.cells.1) ?_;clear E K;try simp only[Act.put,sx]
 refine a8 10 (λK E=>?_);go_simp;refine(ail vs vh C.ab _ _ (y.out.ab.below Q.out.below) (by have:=y.out.len;omega) (fy _ (by have:=y.out.len;omega))).mono ?_;rintro e w2⟨am,v2,rfl,ax⟩;have ad:=aa (Q.out.kept am);have a1:=aa am;rw[az7]at ax;have ak:Hid (gp (λb=>b≠w0.heap.size) w2 v2 (lj C.ab p)):=aa (gp.fg ax λb hb=>by have:=Q.out.lt;omega);have b0:=aa (ak6 C.ab p);generalize b5:lj C.ab p=L at *;obtain⟨mA,bf,rfl,b8⟩:=br.slice ak.out;clear am ax;go_simp;refine E.out _ _ (λ_ hS=>ad.out.cells.1) ?_;clear E K;try simp only[Act.put,sx]
 refine af 11 (ι (L.length:Int)) ?_;try simp only[Act.put,sx]
 refine ce ?_;have a2:Hid (w.grownBy w2 (some w0.heap.size)):=aa (sh (sh (mw abk) a0.out) a1.out);have b6:L.length<=24:=by have:=b0.out;have:=y.out.len;omega
 go_wp2_with fail;go_loopw [18] (λi wr=>∃(k:Nat)(d:Bs),k<=L.length/\i=ι (k:Int)/\Hid (EAt w0 t vs vh C.ab.length d wr)/\Hid (w.grownBy wr (some w0.heap.size))/\Hid (qq C.ab.length d.b<=f)/\Hid (gp (λb=>b≠w0.heap.size) wr (.slice mA L.length bf) L)/\Hid (R=(L.drop k).foldl (ke (tB C.ab) (pB C.ab H f)) d)) (λi _=>L.length-(intOf i).toNat)
 case atStart=>exact ⟨0,st,ar _,rfl,ad,a2,aa hc,ak,J⟩
 case round =>
  clear ad a2 ak J I O Q a0 a1;obtain⟨k,d,hk,rfl,I,HG,Z,HL,J⟩:=hrel;obtain⟨z,rfl⟩:∃z:ω,z=wr:=⟨_,rfl⟩;by_cases ba:k<L.length
  . obtain⟨mb,mo,b3,b7,bb,b4⟩:=(let ⟨_,_,h1,_,h3⟩:=HL.out;by injection h1 with e1 e2 e3;subst e1;exact h3 k _ (ae ba):∃b o,mA=some (δ b o)/\b<z.heap.size/\(d7 z b (o+k*1) L[k])/\_);subst b3;have d0:z.cell? (δ mb (mo+k))=some (ι L[k]):=(by have:=bb;unfold d7 at this;rwa [bq]at this);have V:=aa (J.out.trans (nf _ L k ba d));generalize L[k]=x at *;have hz:=a08 C.ab d.a x y.out.len;have U:Hid (EAt w0 t vs vh C.ab.length d z.drew):=aa I.out.drew;have a5:Hid (z.drew.cell? (δ w0.heap.size 2)=some (φ t 0)/\z.drew.cell? (δ w0.heap.size 3)=some (.int .u32 ((bset d.a C.ab.length:Nat):Int))):=aa ⟨U.out.cells.1.2.2,U.out.cells.2.1⟩;have a3:Hid (w.grownBy z.drew (some w0.heap.size)):=aa (mw HG.out);have a4:Hid (gp (λb=>b≠w0.heap.size) z.drew (.slice (some (δ mb mo)) L.length bf) L):=aa (HL.out.below (ag _ _).drew);have HZ:=aa hz;clear bb b4 hz I HG HL J;go_wp2_with fail;refine cr (λW=>W.cell? (δ w0.heap.size 2)=some (φ t 0)/\W.cell? (δ w0.heap.size 3)=some (.int .u32 ((bset d.a C.ab.length:Nat):Int))) [] ?_;refine af 0 (φ w0.heap.size 0) ?_;refine af 1 (φ w0.heap.size 0) ?_;refine af 2 (φ w0.heap.size 3) ?_;refine a7 3 (.int .u32 ((bset d.a C.ab.length:Nat):Int)) (a5.out) ?_;refine af 4 (φ w0.heap.size 0) ?_;refine af 5 (φ w0.heap.size 0) ?_;refine af 6 (φ w0.heap.size 2) ?_;refine a7 7 (φ t 0) (a5.out) ?_;refine af 8 (ι x) ?_;try simp only[Act.put,sx]
    refine a8 9 (λK E=>?_);go_simp;refine(a02 t x C _ (y.out.tree.below U.out.below) (by have:=y.out.len;omega) y.out.root).mono ?_;rintro e w3⟨rfl,rfl⟩
    skip
    go_simp;refine E.out _ _ (λ_ hS=>hS) ?_;clear E K;try simp only[Act.put,sx]
    refine af 10 (.int .u32 (bits .and .u32 ((bset d.a C.ab.length:Nat):Int) ((belowN C.ab x:Nat):Int))) ?_;refine af 11 (.bool (bits .and .u32 ((bset d.a C.ab.length:Nat):Int) ((belowN C.ab x:Nat):Int)==0)) ?_;try simp only[Act.put,sx]
    refine ce ?_;rw[HZ.out];cases Y:am3 C.ab d.a x with
    | true =>
     have HS:Hid (ke (tB C.ab) (pB C.ab H f) d x=d):=aa (by unfold ke tB;rw[ao Y]);rw[HS.out]at V;clear Y;go_wp2;go_roundw
     case rel=>exact ⟨k+1,d,by omega,by go_num,U,a3,Z,a4,V⟩
     case measure=>simp[intOf];omega
    | false =>
     have HS:Hid (ke (tB C.ab) (pB C.ab H f) d x=pB C.ab H f d x):=aa (by unfold ke tB;rw[ah (by rw[Y];simp)]);rw[HS.out]at V;clear Y;go_wp2_with fail;refine(HF.out x d _ U.out Z.out).mono ?_;rintro e w4⟨rfl,av,a9⟩;have bs:=aa a9;have bt:=aa (a3.out.trans av);have b1:=aa (a4.out.grown av λb _ hb h=>hb (by injection h));have bk:Hid (qq C.ab.length (pB C.ab H f d x).b<=f):=aa (a6 (zp _ (agf C.ab H f d x)) Z.out);clear av a9;go_wp2;go_roundw
     case rel=>exact ⟨k+1,pB C.ab H f d x,by omega,by go_num,bs,bt,bk,b1,V⟩
     case measure=>simp[intOf];omega
  . obtain rfl:k=L.length:=(by omega);have hR:=J.out;rw[bz]at hR;have b2:=aa hR;clear hR;go_wp2;go_end0;exact⟨rfl,HG.out,by rw[b2.out];exact I.out⟩
theorem aql{S:List St}{s q:Int}(h:q∈wx S s):c6 S q=true:=by have d:=lm (a1w h);have:=fj.1 d.2.2;exact fj.2 ⟨d.1,by omega⟩
theorem ag5{w0:ω}{t:Nat}{vs vh:Value}{C:Ch}{H:List Nat}{f:Nat}(I:Ent w0 t vs vh C H)(hF:aha w0 t vs vh C H f)(s E:Int)(st:Bs)(w:ω)(hE:EAt w0 t vs vh C.ab.length st w)(hc:qq C.ab.length st.b<=f) :
 Calls prog 165 #[φ w0.heap.size 0,ι s,ι E] w (ah5 w0 t vs vh C.ab.length (ld C.ab (tB C.ab) adB (pB C.ab H f) E st s) w):=by
 have HN:=aa I;have O:=aa (λp st w=>ai0 I hF p st w);have z:=aa hE;have HU:=aa (aj2 t s C w (I.tree.below hE.below) (by have:=I.len;omega) I.root);have V:Hid (ld C.ab (tB C.ab) adB (pB C.ab H f) E st s=upW C.ab (tB C.ab) adB (pB C.ab H f) E (wx C.ab s) st):=aa rfl;have d3:=aad C.ab s;have cb:=aa (λq(h:q∈wx C.ab s)=>aql h);have d5:=I.len;obtain⟨sA,a5,rfl,eg⟩:=br.slice I.ab;obtain⟨co,cv,c1⟩:=hE.cells.1;generalize ld C.ab (tB C.ab) adB (pB C.ab H f) E st s=R at *;generalize wx C.ab s=L at *;clear I hF hE;go_enter func165,ntmps165;go_wp2_with fail;refine HU.out.mono ?_;rintro e w1⟨a0,v1,rfl,b5⟩;have ba:=aa (z.out.kept a0);have bk:Hid (w.grownBy w1 (some w0.heap.size)):=aa (gc a0 _);have av:Hid (gp (λb=>b≠w0.heap.size) w1 v1 L):=aa (gp.fg b5 λb hb=>by have:=z.out.lt;omega);obtain⟨mA,a4,rfl,eb⟩:=br.slice av.out;clear a0 b5 HU co cv c1;go_wp2_with fail;go_loopw [15] (λi wr=>∃(k:Nat)(d:Bs),k<=L.length/\i=ι (k:Int)/\Hid (EAt w0 t (.slice sA C.ab.length a5) vh C.ab.length d wr)/\Hid (w.grownBy wr (some w0.heap.size))/\Hid (qq C.ab.length d.b<=f)/\Hid (gp (λb=>b≠w0.heap.size) wr (.slice mA L.length a4) L)/\Hid (R=upW C.ab (tB C.ab) adB (pB C.ab H f) E (L.drop k) d)) (λi _=>L.length-(intOf i).toNat)
 case atStart=>exact ⟨0,st,ar _,rfl,ba,bk,aa hc,av,V⟩
 case round =>
  clear ba bk av V z;obtain⟨k,d,hk,rfl,z,HG,HC,HL,V⟩:=hrel;obtain⟨y,rfl⟩:∃y:ω,y=wr:=⟨_,rfl⟩;by_cases a3:k<L.length
  . obtain⟨mb,mo,db,d6,b4,ds⟩:=(let ⟨_,_,h1,_,h3⟩:=HL.out;by injection h1 with e1 e2 e3;subst e1;exact h3 k _ (ae a3):∃b o,mA=some (δ b o)/\b<y.heap.size/\(d7 y b (o+k*1) L[k])/\_);subst db;have d0:y.cell? (δ mb (mo+k))=some (ι L[k]):=(by have:=b4;unfold d7 at this;rwa [bq]at this);have J:=V.out;rw[bp a3,upW]at J;have am:=cb.out L[k] (bw a3);obtain⟨j,hj,b3⟩:=fq am;rw[hj]at d0 J am;have cc:=aa am;clear b4 ds hj V am;by_cases Z:(j:Int)=E
    . rw[ao Z]at J;have ax:=aa J;have d1:((j:Int)==E)=true:=(by simpa using Z);clear J Z;go_wp2;go_end0;exact⟨rfl,HG.out,by rw[ax.out];exact z.out⟩
    . rw[ah Z]at J;have d1:((j:Int)==E)=false:=(by simpa using Z);have b1:=aa J;have b0:=aa (acv d.a C.ab.length j (by omega) b3);have bb:Hid (EAt w0 t (.slice sA C.ab.length a5) vh C.ab.length d y.drew):=aa z.out.drew;have b2:Hid (y.drew.cell? (δ w0.heap.size 3)=some (.int .u32 ((bset d.a C.ab.length:Nat):Int))):=aa bb.out.cells.2.1;have ca:Hid (w.grownBy y.drew (some w0.heap.size)):=aa (mw HG.out);have cl:Hid (gp (λb=>b≠w0.heap.size) y.drew (.slice (some (δ mb mo)) L.length a4) L):=aa (HL.out.below (ag _ _).drew);have bf:Hid (y.frozen? (δ w0.heap.size 3)=false):=aa (z.out.blk.frozen 3);have a9:Hid (y.cell? (δ w0.heap.size 3)=some (.int .u32 ((bset d.a C.ab.length:Nat):Int))):=aa z.out.cells.2.1;clear Z J;go_wp2_with fail;have c4:=bf.out;have c3:=a9.out;refine cr (λW=>W.cell? (δ w0.heap.size 3)=some (.int .u32 ((bset d.a C.ab.length:Nat):Int))) [9] ?_;refine af 0 (φ w0.heap.size 0) ?_;refine af 1 (φ w0.heap.size 0) ?_;refine af 2 (φ w0.heap.size 3) ?_;try simp only[Act.put,sx]
      refine aaw (i:=3) (v:=.int .u32 ((bset d.a C.ab.length:Nat):Int)) rfl (by kernel_rfl) (by kernel_rfl) (by kernel_rfl) (by kernel_rfl) (λ_ _ _ h=>h) (Or.inl ⟨by kernel_rfl,λw hS=>by have c0:=hS;go_simp⟩) (b2.out) ?_;try simp only[Act.put,sx]
      refine af 4 (ι (j:Int)) ?_;try simp only[Act.put,sx]
      refine a8 5 (λK O=>?_);go_simp;refine(qf j (by have:=HN.out.len;omega) _).mono ?_;rintro e w5⟨rfl,rfl⟩
      skip
      go_simp;refine O.out _ _ (λ_ hS=>hS) ?_;clear O K;try simp only[Act.put,sx]
      refine ln (i:=6) (v:=.int .u32 ((bset (de d.a (j:Int)) C.ab.length:Nat):Int)) rfl (by kernel_rfl) (by kernel_rfl) (by kernel_rfl) (λ_ _ _ h=>h) (Or.inl ⟨by kernel_rfl,λw=>by go_simp;exact b0.out⟩) ?_;try simp only[Act.put,sx]
      refine af 7 (φ w0.heap.size 0) ?_;refine af 8 (φ w0.heap.size 3) ?_;try simp only[Act.put,sx]
      refine a8 9 (λK O=>?_);go_simp;refine O.out _ _ (λh=>absurd h (by decide)) ?_;clear O K;try simp only[Act.put,sx]
      refine ce ?_;have ak:Hid (EAt w0 t (.slice sA C.ab.length a5) vh C.ab.length (adB d (j:Int)) (y.setCell (δ w0.heap.size 3) (.int .u32 ((bset (de d.a (j:Int)) C.ab.length:Nat):Int))).drew):=aa (z.out.put (j:Int)).drew;have bs:Hid (w.grownBy (y.setCell (δ w0.heap.size 3) (.int .u32 ((bset (de d.a (j:Int)) C.ab.length:Nat):Int))).drew (some w0.heap.size)):=aa (mw (afc HG.out 3 _));have bt:Hid (gp (λb=>b≠w0.heap.size) (y.setCell (δ w0.heap.size 3) (.int .u32 ((bset (de d.a (j:Int)) C.ab.length:Nat):Int))).drew (.slice (some (δ mb mo)) L.length a4) L):=aa (HL.out.grown (mw (afc abk 3 _)) λb _ hb h=>hb (by injection h));obtain⟨b,o,d2,vi,ve,vx,dy,d4,c2,b6,c5⟩:=HN.out.ab.st b3;injection dy with e1 e2 e3;subst e1;subst e3;generalize (y.setCell (δ w0.heap.size 3) (.int .u32 ((bset (de d.a (j:Int)) C.ab.length:Nat):Int))).drew=w5 at *;obtain⟨q0,q1,q2,q3,q4⟩:=b6.below ak.out.below c2;have p0:=ak.out.cells.1.1;have al:Hid (zu C.ab (tB C.ab) adB (pB C.ab H f) d (j:Int)=if (aq C.ab (j:Int)).kind=3 then ym C.ab (tB C.ab) (pB C.ab H f) (j:Int) (adB d (j:Int)) else adB d (j:Int)):=aa rfl;generalize zu C.ab (tB C.ab) adB (pB C.ab H f) d (j:Int)=U at *;generalize (aq C.ab (j:Int)).kind=K at *;clear b6 c5 c4 c3 q1 q2 q3 q4 bf a9 b2 bb ca cl b0 z HG HL;by_cases Y:K=3
      . have Q:=al.out;rw[ao Y]at Q;have ad:=aa Q;have c7:(K==3)=true:=(by simpa using Y);clear Q Y al;go_wp2_with fail;refine(O.out (j:Int) _ _ cc.out ak.out HC.out).mono ?_;rintro e w6⟨rfl,a2,a1⟩;rw[<-ad.out]at a1;have b8:=aa a1;have b9:=aa (bs.out.trans a2);have ci:=aa (bt.out.grown a2 λb _ hb h=>hb (by injection h));have b7:Hid (qq C.ab.length U.b<=f):=aa (by rw[ad.out];exact a6 (zp _ (ao8 (agf C.ab H f) (j:Int) (adB d (j:Int)))) HC.out);clear a2 a1;go_wp2;go_roundw
        case rel=>exact ⟨k+1,U,by omega,by go_num,b8,b9,b7,ci,b1⟩
        case measure=>simp[intOf];omega
      . have Q:=al.out;rw[ah Y]at Q;have ad:=aa Q;have c7:(K==3)=false:=(by simpa using Y);clear Q Y al;go_wp2;go_roundw
        case rel=>exact ⟨k+1,U,by omega,by go_num,by rw[ad.out];exact ak,bs,by rw[ad.out];exact HC,bt,b1⟩
        case measure=>simp[intOf];omega
  . obtain rfl:k=L.length:=(by omega);have hR:=V.out;rw[bz,upW]at hR;have ax:=aa hR;clear hR;go_wp2;go_end0;exact⟨rfl,HG.out,by rw[ax.out];exact z.out⟩
theorem al5{w0:ω}{t:Nat}{vs vh:Value}{C:Ch}{H:List Nat}{f:Nat}(hN:Ent w0 t vs vh C H)(hF:aha w0 t vs vh C H f)(v:Value)(l:List Int)(y:Int)(st:Bs)(w:ω)(hE:EAt w0 t vs vh C.ab.length st w)(hc:qq C.ab.length st.b<=f)(hL:gp (λb=>b≠w0.heap.size) w v l)(a9:l.length<=1000) :
 Calls prog 221 #[φ w0.heap.size 0,v,ι y] w (ah5 w0 t vs vh C.ab.length (al2 C.ab (tB C.ab) adB (pB C.ab H f) l y st) w):=by
 have HA:=aa (λs y st w=>ag5 hN hF s y st w);have HF:=aa hF;have I:=aa hE;have J:Hid (w.grownBy w (some w0.heap.size)):=aa abk;have O:Hid (al2 C.ab (tB C.ab) adB (pB C.ab H f) l y st=l.foldl (ld C.ab (tB C.ab) adB (pB C.ab H f) y) (l.foldl (pB C.ab H f) st)):=aa rfl;obtain⟨lA,a3,rfl,a5⟩:=br.slice hL;have E:=aa hL;generalize al2 C.ab (tB C.ab) adB (pB C.ab H f) l y st=R at *;clear hN hF hE hL;go_enter func221,ntmps221;go_wp2_with fail;go_loopw [12] (λi wr=>∃(k:Nat)(d:Bs),k<=l.length/\i=ι (k:Int)/\Hid (EAt w0 t vs vh C.ab.length d wr)/\Hid (w.grownBy wr (some w0.heap.size))/\Hid (qq C.ab.length d.b<=f)/\Hid (gp (λb=>b≠w0.heap.size) wr (.slice lA l.length a3) l)/\Hid (R=l.foldl (ld C.ab (tB C.ab) adB (pB C.ab H f) y) ((l.drop k).foldl (pB C.ab H f) d))) (λi _=>l.length-(intOf i).toNat)
 case atStart=>exact ⟨0,st,ar _,rfl,I,J,aa hc,E,O⟩
 case round =>
  clear hc;obtain⟨k,d,hk,rfl,I,J,W,E,O⟩:=hrel;obtain⟨z,rfl⟩:∃z:ω,z=wr:=⟨_,rfl⟩;by_cases Y:k<l.length
  . obtain⟨mb,mo,a1,a4,ad,a2⟩:=(let ⟨_,_,h1,_,h3⟩:=E.out;by injection h1 with e1 e2 e3;subst e1;exact h3 k _ (ae Y):∃b o,lA=some (δ b o)/\b<z.heap.size/\(d7 z b (o+k*1) l[k])/\_);subst a1;have d0:z.cell? (δ mb (mo+k))=some (ι l[k]):=(by have:=ad;unfold d7 at this;rwa [bq]at this);have U:=O.out;rw[bp Y,cx]at U;have ax:=aa U;generalize l[k]=x at *;clear ad a2 U;go_wp2_with fail;refine(HF x d _ I W).mono ?_;rintro e w6⟨rfl,V,Z⟩;have al:=aa Z;have am:=aa (J.trans V);have av:=aa (E.grown V λb _ hb h=>hb (by injection h));have ak:Hid (qq C.ab.length (pB C.ab H f d x).b<=f):=aa (a6 (zp _ (agf C.ab H f d x)) W);clear V Z;go_wp2;go_roundw
    case rel=>exact ⟨k+1,_,by omega,by go_num,al,am,ak,av,ax⟩
    case measure=>simp[intOf];omega
  . obtain rfl:k=l.length:=(by omega);have Q:=O.out;rw[bz,dv]at Q;have a0:=aa Q;clear Q;go_wp2_with fail;go_loopw [22] (λi wr=>∃(k:Nat)(d:Bs),k<=l.length/\i=ι (k:Int)/\Hid (EAt w0 t vs vh C.ab.length d wr)/\Hid (w.grownBy wr (some w0.heap.size))/\Hid (qq C.ab.length d.b<=f)/\Hid (gp (λb=>b≠w0.heap.size) wr (.slice lA l.length a3) l)/\Hid (R=(l.drop k).foldl (ld C.ab (tB C.ab) adB (pB C.ab H f) y) d)) (λi _=>l.length-(intOf i).toNat)
    case atStart=>exact ⟨0,d,ar _,rfl,I,J,W,E,a0⟩
    case round =>
     clear hk Y;obtain⟨k,d,hk,rfl,I,J,W,E,O⟩:=hrel;obtain⟨z,rfl⟩:∃z:ω,z=wr:=⟨_,rfl⟩;by_cases Y:k<l.length
     . obtain⟨mb,mo,a1,a4,ad,a2⟩:=(let ⟨_,_,h1,_,h3⟩:=E.out;by injection h1 with e1 e2 e3;subst e1;exact h3 k _ (ae Y):∃b o,lA=some (δ b o)/\b<z.heap.size/\(d7 z b (o+k*1) l[k])/\_);subst a1;have d0:z.cell? (δ mb (mo+k))=some (ι l[k]):=(by have:=ad;unfold d7 at this;rwa [bq]at this);have U:=O.out;rw[bp Y,cx]at U;have ax:=aa U;generalize l[k]=x at *;clear ad a2 U;go_wp2_with fail;refine(HA x y d _ I W).mono ?_;rintro e w6⟨rfl,V,Z⟩;have al:=aa Z;have am:=aa (J.trans V);have av:=aa (E.grown V λb _ hb h=>hb (by injection h));have ak:Hid (qq C.ab.length (ld C.ab (tB C.ab) adB (pB C.ab H f) y d x).b<=f):=aa (a6 (zp _ (an8 (agf C.ab H f) y (wx C.ab x) d)) W);clear V Z;go_wp2;go_roundw
       case rel=>exact ⟨k+1,_,by omega,by go_num,al,am,ak,av,ax⟩
       case measure=>simp[intOf];omega
     . obtain rfl:k=l.length:=(by omega);have Q:=O.out;rw[bz,dv]at Q;have a0:=aa Q;clear Q;go_wp2;go_end0;exact⟨rfl,J,by rw[a0.out];exact I⟩
theorem ajn{w0 w:ω}{v:Value}{L:List Int}(h:dd w0 v L)(d:κ w0 w):gp (λb=>b≠w0.heap.size) w v L :=
 ((gp.amv (K:=λb=>b<w0.heap.size) h λb d=>d).below d).mono λb _ d=>by omega
theorem aej{w0:ω}{t:Nat}{vs vh:Value}{C:Ch}{H:List Nat}(U:Ent w0 t vs vh C H)(s:Int)(st:Bs)(w:ω)(hE:EAt w0 t vs vh C.ab.length st w)(hs:c6 C.ab s=false\/st.b s.toNat=true) :
 Calls prog 163 #[φ w0.heap.size 0,ι s] w (ah5 w0 t vs vh C.ab.length st w):=by
 have Q:=aa U;have HE:=aa hE;obtain⟨z,E,rfl,al⟩:=br.slice U.au;have am:=U.len;clear U hE;cases J:c6 C.ab s with
 | false =>
  have Y:=aa J;clear hs J;go_enter func163,ntmps163;go_wp2_with fail;refine cr (λW=>W.cell? (δ w0.heap.size 0)=some vs/\W.cell? (δ w0.heap.size 1)=some (.slice z H.length E)/\W.cell? (δ w0.heap.size 4)=some (.int .u32 ((bset st.b C.ab.length:Nat):Int))) [] ?_;have y:Hid (EAt w0 t vs (.slice z H.length E) C.ab.length st w.drew):=aa HE.drew;have Z:=aa (show _/\_/\_ from ⟨y.cells.1.1,y.cells.1.2.1,y.cells.2.2⟩);refine af 0 (φ w0.heap.size 0) ?_;refine af 1 (φ w0.heap.size 0) ?_;refine af 2 (φ w0.heap.size 0) ?_;refine a7 3 (.agg #[vs,.slice z H.length E]) (Z) ?_;refine af 4 (ι s) ?_;try simp only[Act.put,sx]
  refine a8 5 (λK O=>?_);go_simp;refine(ago vs (.slice z H.length E) C.ab s _ (Q.ab.below y.below) (by have:=Q.len;omega)).mono ?_;rintro e w1⟨rfl,I⟩;have d:=aa (y.kept I);have V:Hid (w.grownBy w1 (some w0.heap.size)):=aa (sh (mw abk) I);rw[Y.out];clear I;go_simp;refine O _ _ (λ_ hS=>⟨d.cells.1.1,d.cells.1.2.1,d.cells.2.2⟩) ?_;try simp only[Act.put,sx]
  refine af 6 (.bool true) ?_;refine af 7 (.bool true) ?_;try simp only[Act.put,sx]
  refine ln (i:=8) (v:=undef) rfl (by kernel_rfl) (by kernel_rfl) (by kernel_rfl) (λ_ _ _ h=>h) (Or.inr ⟨by kernel_rfl,rfl⟩) ?_;try simp only[Act.put,sx]
  refine ln (i:=9) (v:=undef) rfl (by kernel_rfl) (by kernel_rfl) (by kernel_rfl) (λ_ _ _ h=>h) (Or.inr ⟨by kernel_rfl,rfl⟩) ?_;try simp only[Act.put,sx]
  refine ln (i:=10) (v:=undef) rfl (by kernel_rfl) (by kernel_rfl) (by kernel_rfl) (λ_ _ _ h=>h) (Or.inr ⟨by kernel_rfl,rfl⟩) ?_;try simp only[Act.put,sx]
  refine ln (i:=11) (v:=undef) rfl (by kernel_rfl) (by kernel_rfl) (by kernel_rfl) (λ_ _ _ h=>h) (Or.inr ⟨by kernel_rfl,rfl⟩) ?_;try simp only[Act.put,sx]
  refine ln (i:=12) (v:=undef) rfl (by kernel_rfl) (by kernel_rfl) (by kernel_rfl) (λ_ _ _ h=>h) (Or.inr ⟨by kernel_rfl,rfl⟩) ?_;try simp only[Act.put,sx]
  refine ln (i:=13) (v:=undef) rfl (by kernel_rfl) (by kernel_rfl) (by kernel_rfl) (λ_ _ _ h=>h) (Or.inr ⟨by kernel_rfl,rfl⟩) ?_;try simp only[Act.put,sx]
  refine ln (i:=14) (v:=undef) rfl (by kernel_rfl) (by kernel_rfl) (by kernel_rfl) (λ_ _ _ h=>h) (Or.inr ⟨by kernel_rfl,rfl⟩) ?_;try simp only[Act.put,sx]
  refine ln (i:=15) (v:=undef) rfl (by kernel_rfl) (by kernel_rfl) (by kernel_rfl) (λ_ _ _ h=>h) (Or.inr ⟨by kernel_rfl,rfl⟩) ?_;try simp only[Act.put,sx]
  refine af 16 (.bool true) ?_;try simp only[Act.put,sx]
  refine ce ?_;go_wp2;go_end0;exact⟨rfl,V,d⟩
 | true =>
  obtain⟨k,rfl,hk⟩:=fq J
  have hm:st.b k=true:=by rcases hs with h | h;(rw[J]at h;cases h);exact h
  have Y:=aa J
  have ad:=aa ((qg st.b C.ab.length k (by omega) hk).2)
  rw[hm]at ad
  clear hs J hm
  go_enter func163,ntmps163
  go_wp2_with fail
  refine cr (λW=>W.cell? (δ w0.heap.size 0)=some vs/\W.cell? (δ w0.heap.size 1)=some (.slice z H.length E)/\W.cell? (δ w0.heap.size 4)=some (.int .u32 ((bset st.b C.ab.length:Nat):Int))) [] ?_
  have y:Hid (EAt w0 t vs (.slice z H.length E) C.ab.length st w.drew):=aa HE.drew
  have Z:=aa (show _/\_/\_ from ⟨y.cells.1.1,y.cells.1.2.1,y.cells.2.2⟩)
  refine af 0 (φ w0.heap.size 0) ?_
  refine af 1 (φ w0.heap.size 0) ?_
  refine af 2 (φ w0.heap.size 0) ?_
  refine a7 3 (.agg #[vs,.slice z H.length E]) (Z) ?_
  refine af 4 (ι (k:Int)) ?_
  try simp only[Act.put,sx]
  refine a8 5 (λK O=>?_)
  go_simp
  refine(ago vs (.slice z H.length E) C.ab (k:Int) _ (Q.ab.below y.below) (by have:=Q.len;omega)).mono ?_
  rintro e w1⟨rfl,I⟩
  have d:=aa (y.kept I)
  have V:Hid (w.grownBy w1 (some w0.heap.size)):=aa (sh (mw abk) I)
  rw[Y.out]
  clear I
  go_simp
  refine O _ _ (λ_ hS=>⟨d.cells.1.1,d.cells.1.2.1,d.cells.2.2⟩) ?_
  try simp only[Act.put,sx]
  have ak:=aa (show _/\_/\_ from ⟨d.cells.1.1,d.cells.1.2.1,d.cells.2.2⟩)
  refine af 6 (.bool false) ?_
  refine af 7 (.bool false) ?_
  refine af 8 (φ w0.heap.size 0) ?_
  refine af 9 (φ w0.heap.size 0) ?_
  refine af 10 (φ w0.heap.size 4) ?_
  refine a7 11 (.int .u32 ((bset st.b C.ab.length:Nat):Int)) (ak) ?_
  refine af 12 (ι (k:Int)) ?_
  try simp only[Act.put,sx]
  refine ng (i:=13) rfl (by kernel_rfl) (by kernel_rfl) (λK O=>?_)
  go_simp
  refine(qf k (by have:=Q.len;omega) _).mono ?_
  rintro e w5⟨rfl,rfl⟩
  skip
  go_simp
  refine O _ _ (λ_ hS=>hS) ?_
  try simp only[Act.put,sx]
  refine af 14 (.int .u32 (bits .and .u32 ((bset st.b C.ab.length:Nat):Int) ((2:Int)^k))) ?_
  try simp only[Act.put,sx]
  refine ln (i:=15) (v:=.bool true) rfl (by kernel_rfl) (by kernel_rfl) (by kernel_rfl) (λ_ _ _ h=>h) (Or.inl ⟨by kernel_rfl,λw=>by go_simp;simpa using ad.out⟩) ?_
  try simp only[Act.put,sx]
  refine af 16 (.bool true) ?_
  try simp only[Act.put,sx]
  refine ce ?_
  go_wp2
  go_end0
  exact⟨rfl,V,d⟩
theorem atv{w0:ω}{t:Nat}{vs vh:Value}{C:Ch}{H:List Nat}{f:Nat}(hN:Ent w0 t vs vh C H)(hF:aha w0 t vs vh C H f)(s:Int)(st:Bs)(w:ω)(hE:EAt w0 t vs vh C.ab.length st w)(ba:c6 C.ab s=true)(hm:st.b s.toNat=false)(hc:qq C.ab.length st.b<=f+1) :
 Calls prog 163 #[φ w0.heap.size 0,ι s] w (ah5 w0 t vs vh C.ab.length (pB C.ab H (f+1) st s) w):=by
 have d:pB C.ab H (f+1) st s=pB C.ab H (f+1) st s:=rfl;conv at d=>rhs;rw[pB,ah (show ¬(c6 C.ab s=false\/st.b s.toNat=true) by rw[ba,hm];simp)]
 obtain⟨k,rfl,hk⟩:=fq ba;have hm:st.b k=false:=hm;have E:=aa hN;have HF:=aa hF;have HE:=aa hE;have HC:Hid (qq C.ab.length (de st.b (k:Int))<=f):=aa (by have:=apv C.ab.length hk hm;omega);have ds:=aa ba;have cl:=aa ((qg st.b C.ab.length k (by have:=hN.len;omega) hk).2);rw[hm]at cl;have e1:=hN.len;obtain⟨hA,al,rfl,e0⟩:=br.slice hN.au;obtain⟨b,o,av,vi,ve,vx,rfl,ex,ek,cv,b8⟩:=hN.ab.st hk;have d3:=aa cv;have db:=aa b8.1;have c5:=aa (hN.ip _ ba);obtain⟨Q,U,eA,ak,xA,ax,rfl,rfl,rfl⟩:=b8.slices;generalize pB C.ab H (f+1) st (k:Int)=R at *;have HR:=aa d;clear hN hF hE ba hm hc cv b8 d;go_enter func163,ntmps163;go_wp2_with fail;refine cr (λW=>W.cell? (δ w0.heap.size 0)=some (.slice (some (δ b o)) C.ab.length av)/\W.cell? (δ w0.heap.size 1)=some (.slice hA H.length al)/\W.cell? (δ w0.heap.size 4)=some (.int .u32 ((bset st.b C.ab.length:Nat):Int))) [] ?_;have O:Hid (EAt w0 t (.slice (some (δ b o)) C.ab.length av) (.slice hA H.length al) C.ab.length st w.drew):=aa HE.drew;have a9:=aa (show _/\_/\_ from ⟨O.cells.1.1,O.cells.1.2.1,O.cells.2.2⟩);refine af 0 (φ w0.heap.size 0) ?_;refine af 1 (φ w0.heap.size 0) ?_;refine af 2 (φ w0.heap.size 0) ?_;refine a7 3 (.agg #[.slice (some (δ b o)) C.ab.length av,.slice hA H.length al]) (a9) ?_;refine af 4 (ι (k:Int)) ?_;try simp only[Act.put,sx]
 refine a8 5 (λK z=>?_);go_simp;refine(ago (.slice (some (δ b o)) C.ab.length av) (.slice hA H.length al) C.ab (k:Int) _ (E.ab.below O.below) (by have:=E.len;omega)).mono ?_;rintro e w1⟨rfl,b5⟩;have Z:=aa (O.kept b5);have c1:Hid (w.grownBy w1 (some w0.heap.size)):=aa (sh (mw abk) b5);rw[ds.out];clear b5;go_simp;refine z _ _ (λ_ J=>⟨Z.cells.1.1,Z.cells.1.2.1,Z.cells.2.2⟩) ?_;try simp only[Act.put,sx]
 have d2:=aa (show _/\_/\_ from ⟨Z.cells.1.1,Z.cells.1.2.1,Z.cells.2.2⟩);refine af 6 (.bool false) ?_;refine af 7 (.bool false) ?_;refine af 8 (φ w0.heap.size 0) ?_;refine af 9 (φ w0.heap.size 0) ?_;refine af 10 (φ w0.heap.size 4) ?_;refine a7 11 (.int .u32 ((bset st.b C.ab.length:Nat):Int)) (d2) ?_;refine af 12 (ι (k:Int)) ?_;try simp only[Act.put,sx]
 refine ng (i:=13) rfl (by kernel_rfl) (by kernel_rfl) (λK z=>?_);go_simp;refine(qf k (by have:=E.len;omega) _).mono ?_;rintro e w5⟨rfl,rfl⟩
 skip
 go_simp;refine z _ _ (λ_ J=>J) ?_;try simp only[Act.put,sx]
 refine af 14 (.int .u32 (bits .and .u32 ((bset st.b C.ab.length:Nat):Int) ((2:Int)^k))) ?_;try simp only[Act.put,sx]
 refine ln (i:=15) (v:=.bool false) rfl (by kernel_rfl) (by kernel_rfl) (by kernel_rfl) (λ_ _ _ h=>h) (Or.inl ⟨by kernel_rfl,λw=>by go_simp;simpa using cl.out⟩) ?_;try simp only[Act.put,sx]
 refine af 16 (.bool false) ?_;try simp only[Act.put,sx]
 refine ce ?_;have b4:=aa (acv st.b C.ab.length k (by omega) hk);have b0:Hid (w1.frozen? (δ w0.heap.size 4)=false):=aa (Z.blk.frozen 4);have bs:Hid (w1.cell? (δ w0.heap.size 4)=some (.int .u32 ((bset st.b C.ab.length:Nat):Int))):=aa Z.cells.2.2;have a9:Hid (w1.drew.cell? (δ w0.heap.size 4)=some (.int .u32 ((bset st.b C.ab.length:Nat):Int))):=aa Z.cells.2.2;go_wp2_with fail;have b7:=b0.out;have b6:=bs.out;refine cr (λW=>W.cell? (δ w0.heap.size 4)=some (.int .u32 ((bset st.b C.ab.length:Nat):Int))) [9] ?_;refine af 0 (φ w0.heap.size 0) ?_;refine af 1 (φ w0.heap.size 0) ?_;refine af 2 (φ w0.heap.size 4) ?_;try simp only[Act.put,sx]
 refine aaw (i:=3) (v:=.int .u32 ((bset st.b C.ab.length:Nat):Int)) rfl (by kernel_rfl) (by kernel_rfl) (by kernel_rfl) (by kernel_rfl) (λ_ _ _ h=>h) (Or.inl ⟨by kernel_rfl,λw J=>by have c0:=J;go_simp⟩) (a9) ?_;try simp only[Act.put,sx]
 refine af 4 (ι (k:Int)) ?_;try simp only[Act.put,sx]
 refine a8 5 (λK z=>?_);go_simp;refine(qf k (by have:=E.len;omega) _).mono ?_;rintro e w5⟨rfl,rfl⟩
 skip
 go_simp;refine z _ _ (λ_ J=>J) ?_;try simp only[Act.put,sx]
 refine ln (i:=6) (v:=.int .u32 ((bset (de st.b (k:Int)) C.ab.length:Nat):Int)) rfl (by kernel_rfl) (by kernel_rfl) (by kernel_rfl) (λ_ _ _ h=>h) (Or.inl ⟨by kernel_rfl,λw=>by go_simp;exact b4⟩) ?_;try simp only[Act.put,sx]
 refine af 7 (φ w0.heap.size 0) ?_;refine af 8 (φ w0.heap.size 4) ?_;try simp only[Act.put,sx]
 refine a8 9 (λK z=>?_);go_simp;refine z _ _ (λh=>absurd h (by decide)) ?_;try simp only[Act.put,sx]
 refine ce ?_;have a1:Hid (EAt w0 t (.slice (some (δ b o)) C.ab.length av) (.slice hA H.length al) C.ab.length ⟨st.a,de st.b (k:Int)⟩ (w1.setCell (δ w0.heap.size 4) (.int .u32 ((bset (de st.b (k:Int)) C.ab.length:Nat):Int))).drew):=aa (Z.mark (k:Int)).drew;have c2:Hid (w.grownBy (w1.setCell (δ w0.heap.size 4) (.int .u32 ((bset (de st.b (k:Int)) C.ab.length:Nat):Int))).drew (some w0.heap.size)):=aa (mw (afc c1 4 _));generalize (w1.setCell (δ w0.heap.size 4) (.int .u32 ((bset (de st.b (k:Int)) C.ab.length:Nat):Int))).drew=w2 at *;obtain⟨q0,q1,q2,q3,q4⟩:=d3.below a1.below ek;have p0:=a1.cells.1.1;have ev:¬w0.heap.size=w2.heap.size:=by have:=a1.lt;omega
 have er:¬b=w2.heap.size:=by have:=a1.lt;omega
 generalize eb:(aq C.ab (k:Int)).kind=y at *;generalize eg:(aq C.ab (k:Int)).par=P at *;generalize d6:(aq C.ab (k:Int)).ip=IN at *;generalize (aq C.ab (k:Int)).kv.length=el at *;generalize (aq C.ab (k:Int)).me.length=xl at *;obtain⟨I,b9⟩:∃I,I=IN.length:=⟨_,rfl⟩;rw[<-b9]at q2;have c7:=aa b9;have a2:Hid (cg (w2.alloc (qc y P (.slice Q I U) (.slice eA el ak) (.slice xA xl ax))) w2.heap.size 59 #[ι y,ι P,.slice Q I U,.slice eA el ak,.slice xA xl ax]):=aa (cg.new w2 59 _);have a3:=aa (a1.kept (ap w2 (qc y P (.slice Q I U) (.slice eA el ak) (.slice xA xl ax))));have ca:=aa (sh c2 (ap w2 (qc y P (.slice Q I U) (.slice eA el ak) (.slice xA xl ax))));have cc:Hid (¬w2.heap.size=w0.heap.size):=aa (by have:=a1.lt;omega);clear eb eg d6 b9 b7 b6;go_wp2_with fail;refine(uz _ _).mono ?_;rintro e w4⟨rfl,rfl⟩;clear q0 q1 q2 q3 q4 p0 ev er;generalize w2.heap.size=V at *;generalize w2.alloc (qc y P (.slice Q I U) (.slice eA el ak) (.slice xA xl ax))=Y at *;obtain⟨z0,z1,z2⟩:=(⟨a2.cell 0,a2.cell 1,a2.cell 2⟩:Y.cell? (δ V 0)=some (ι y)/\Y.cell? (δ V 1)=some (ι P)/\Y.cell? (δ V 2)=some (.slice Q I U));cases hh:ct y with
 | true =>
  have d:=HR.out;rw[ao hh]at d;have bf:=aa d;have O:=aa a3.drew;have c4:=aa (mw ca);have b2:Hid (cg Y.drew V 59 #[ι y,ι P,.slice Q I U,.slice eA el ak,.slice xA xl ax]):=aa a2;clear d hh z0 z1 z2;go_wp2_with fail;refine cr (λW=>W.cell? (δ w0.heap.size 0)=some (.slice (some (δ b o)) C.ab.length av)/\W.cell? (δ w0.heap.size 1)=some (.slice hA H.length al)/\W.cell? (δ V 1)=some (ι P)) [] ?_;have ci:=aa (show _/\_/\_ from ⟨O.cells.1.1,O.cells.1.2.1,b2.cell 1⟩);refine af 0 (φ w0.heap.size 0) ?_;refine af 1 (φ w0.heap.size 0) ?_;refine af 2 (φ w0.heap.size 0) ?_;refine af 3 (φ w0.heap.size 0) ?_;refine a7 4 (.agg #[.slice (some (δ b o)) C.ab.length av,.slice hA H.length al]) (ci) ?_;refine af 5 (ι (k:Int)) ?_;refine af 7 (φ V 1) ?_;refine a7 8 (ι P) (ci) ?_;try simp only[Act.put,sx]
  refine a8 6 (λK z=>?_);go_simp;refine(aw1 _ _ C.ab H (k:Int) w0 _ O.below E.ab E.au (by have:=E.len;omega) E.hlen).mono ?_;rintro e w7⟨bk,v7,rfl,co⟩;have bt:=aa (O.kept bk);have c3:=aa (sh c4 bk);have b3:=aa (b2.below bk b2.lt);have d0:Hid (gp (λb=>b≠w0.heap.size) w7 v7 (za C.ab H (k:Int))):=aa (co.mono λb _ hb=>by have:=O.lt;omega);clear bk co;go_simp;refine z _ _ (λ_ J=>⟨bt.cells.1.1,bt.cells.1.2.1,b3.cell 1⟩) ?_;try simp only[Act.put,sx]
  refine a8 9 (λK z=>?_);go_simp;refine(al5 E HF v7 _ P _ _ bt HC d0 (E.ofl _)).mono ?_;rintro e w8⟨rfl,ad,am⟩;have a0:=aa am;have a4:=aa (c3.trans ad);have d1:Hid (cg w8 V 59 #[ι y,ι P,.slice Q I U,.slice eA el ak,.slice xA xl ax]):=aa ((ad.block V b3.lt (λh=>by injection h with h;exact cc h)).trans b3);clear ad am;go_simp;refine z _ _ (λ_ J=>⟨a0.cells.1.1,a0.cells.1.2.1,d1.cell 1⟩) ?_;try simp only[Act.put,sx]
  refine ce ?_;go_wp2;go_end0;exact⟨rfl,a4,by rw[bf.out];exact a0⟩
 | false =>
  have d:=HR.out
  rw[ah (by rw[hh];simp)]at d
  have b4:=aa (acv st.a C.ab.length k (by omega) hk)
  have b0:Hid (Y.frozen? (δ w0.heap.size 3)=false):=aa (a3.blk.frozen 3)
  have bs:Hid (Y.cell? (δ w0.heap.size 3)=some (.int .u32 ((bset st.a C.ab.length:Nat):Int))):=aa a3.cells.2.1
  have a9:Hid (Y.drew.cell? (δ w0.heap.size 3)=some (.int .u32 ((bset st.a C.ab.length:Nat):Int))):=aa a3.cells.2.1
  have bf:=aa d
  clear d hh z0 z1 z2
  go_wp2_with fail
  have b7:=b0.out
  have b6:=bs.out
  refine cr (λW=>W.cell? (δ w0.heap.size 3)=some (.int .u32 ((bset st.a C.ab.length:Nat):Int))) [9] ?_
  refine af 0 (φ w0.heap.size 0) ?_
  refine af 1 (φ w0.heap.size 0) ?_
  refine af 2 (φ w0.heap.size 3) ?_
  try simp only[Act.put,sx]
  refine aaw (i:=3) (v:=.int .u32 ((bset st.a C.ab.length:Nat):Int)) rfl (by kernel_rfl) (by kernel_rfl) (by kernel_rfl) (by kernel_rfl) (λ_ _ _ h=>h) (Or.inl ⟨by kernel_rfl,λw J=>by have c0:=J;go_simp⟩) (a9) ?_
  try simp only[Act.put,sx]
  refine af 4 (ι (k:Int)) ?_
  try simp only[Act.put,sx]
  refine a8 5 (λK z=>?_)
  go_simp
  refine(qf k (by have:=E.len;omega) _).mono ?_
  rintro e w5⟨rfl,rfl⟩
  skip
  go_simp
  refine z _ _ (λ_ J=>J) ?_
  try simp only[Act.put,sx]
  refine ln (i:=6) (v:=.int .u32 ((bset (de st.a (k:Int)) C.ab.length:Nat):Int)) rfl (by kernel_rfl) (by kernel_rfl) (by kernel_rfl) (λ_ _ _ h=>h) (Or.inl ⟨by kernel_rfl,λw=>by go_simp;exact b4⟩) ?_
  try simp only[Act.put,sx]
  refine af 7 (φ w0.heap.size 0) ?_
  refine af 8 (φ w0.heap.size 3) ?_
  try simp only[Act.put,sx]
  refine a8 9 (λK z=>?_)
  go_simp
  refine z _ _ (λh=>absurd h (by decide)) ?_
  try simp only[Act.put,sx]
  refine ce ?_
  have bb:Hid (EAt w0 t (.slice (some (δ b o)) C.ab.length av) (.slice hA H.length al) C.ab.length ⟨de st.a (k:Int),de st.b (k:Int)⟩ (Y.setCell (δ w0.heap.size 3) (.int .u32 ((bset (de st.a (k:Int)) C.ab.length:Nat):Int))).drew):=aa (a3.put (k:Int)).drew
  have b1:Hid (w.grownBy (Y.setCell (δ w0.heap.size 3) (.int .u32 ((bset (de st.a (k:Int)) C.ab.length:Nat):Int))).drew (some w0.heap.size)):=aa (mw (afc ca 3 _))
  have cb:Hid (cg (Y.setCell (δ w0.heap.size 3) (.int .u32 ((bset (de st.a (k:Int)) C.ab.length:Nat):Int))).drew V 59 #[ι y,ι P,.slice Q I U,.slice eA el ak,.slice xA xl ax]):=aa (a2.db cc 3 _)
  generalize (Y.setCell (δ w0.heap.size 3) (.int .u32 ((bset (de st.a (k:Int)) C.ab.length:Nat):Int))).drew=w5 at *
  obtain⟨z0,z2⟩:=(⟨cb.cell 0,cb.cell 2⟩:w5.cell? (δ V 0)=some (ι y)/\w5.cell? (δ V 2)=some (.slice Q I U))
  clear b7 b6
  by_cases h2:y=2
  . have d:=bf.out
    rw[ao h2]at d
    have a5:=aa d
    have d4:(y==2)=true:=by simpa using h2
    have dy:Hid (gp (λb=>b≠w0.heap.size) w5 (.slice Q I U) IN):=aa (by rw[c7.out];exact ajn db bb.below)
    clear d h2
    go_wp2_with fail
    refine(al5 E HF _ _ _ _ _ bb HC dy c5).mono ?_
    rintro e w8⟨rfl,ad,am⟩
    have a0:=aa am
    have a4:=aa (b1.trans ad)
    clear ad am
    go_wp2
    go_end0
    exact⟨rfl,a4,by rw[a5.out];exact a0⟩
  . have d:=bf.out
    rw[ah h2]at d
    have d4:(y==2)=false:=by simpa using h2
    by_cases h3:y=3
    . rw[ao h3]at d
      have a5:=aa d
      have d5:(y==3)=true:=by simpa using h3
      clear d h2 h3
      go_wp2_with fail
      refine(ai0 E HF _ _ _ (ll hk) bb HC).mono ?_
      rintro e w8⟨rfl,ad,am⟩
      have a0:=aa am
      have a4:=aa (b1.trans ad)
      clear ad am
      go_wp2
      go_end0
      exact⟨rfl,a4,by rw[a5.out];exact a0⟩
    . rw[ah h3]at d
      have a5:=aa d
      have d5:(y==3)=false:=by simpa using h3
      clear d h2 h3
      go_wp2
      go_end0
      exact⟨rfl,b1,by rw[a5.out];exact bb⟩
theorem alu{w0:ω}{t:Nat}{vs vh:Value}{C:Ch}{H:List Nat}(y:Ent w0 t vs vh C H):∀f,aha w0 t vs vh C H f
 | 0=>λs st w d E=>by
  rw[pB]
  refine aej y s st w d ?_
  cases Q:c6 C.ab s with
  | false=>exact .inl rfl
  | true =>
   obtain⟨k,rfl,U⟩:=fq Q
   cases I:st.b k with
   | true=>exact .inr I
   | false=>have:=apv C.ab.length U I;omega
 | f+1=>λs st w d E=>by
  by_cases h:c6 C.ab s=false\/st.b s.toNat=true
  . rw[pB,ao h];exact aej y s st w d h
  . have J:c6 C.ab s=true:=(by cases z:c6 C.ab s with | true=>rfl | false=>exact absurd (.inl z) h);have O:st.b s.toNat=false:=(by cases z:st.b s.toNat with | false=>rfl | true=>exact absurd (.inr z) h);exact atv y (alu y f) s st w d J O E
theorem a30(S:List St)(P:Nat->Bool):(agk S P).length<=S.length:=ads P _
theorem ak2{S:List St}{P:Nat->Bool}{x:Int}(h:x∈agk S P):c6 S x=true:=by unfold agk at h;obtain⟨j,d,rfl⟩:=gt.1 h;exact ll (dk.1 (ey.1 d).1)
theorem acw{S:List St}(E:l1 S)(H:List Nat)(s:Int):(za S H s).length<=31/\∀x∈za S H s,c6 S x=true:=by
 unfold za;split
 . exact⟨by simp,λx d=>by cases d⟩
 . rename_i y;have y:c6 S s=true:=(by simpa using y);split
   . refine⟨by simp,λx d=>?_⟩;obtain rfl:=cf.1 d;exact y
   . rename_i z;have z:ct (aq S s).kind=true:=(by simpa using z);split
     . exact⟨by have:=a30 S (cm (ir H s));have:=E.len;omega,λx d=>ak2 d⟩
     . obtain⟨t,I,J,_⟩:=E.a1l s y z;rw[I];refine⟨by simp,λx d=>?_⟩;obtain rfl:=cf.1 d;exact J
theorem ais:∀(M acc:List Int),(M.foldl ka acc).length<=acc.length+M.length
 | [],acc=>by simp
 | x::M,acc=>by
  have d:=ais M (ka acc x);have y:(ka acc x).length<=acc.length+1:=by unfold ka;split<;>simp
  rw[cx,bm];omega
theorem arh{S:List St}(y:l1 S)(H:List Nat)(l:List Int):(uu S H l).length<=31*l.length:=by
 have:∀(l d:List Int),(l.foldl (λd s=>(za S H s).foldl ka d) d).length<=d.length+31*l.length:=by
  intro l
  induction l with
  | nil=>intro d;simp
  | cons s l z =>
   intro d
   have E:=z ((za S H s).foldl ka d)
   have I:=ais (za S H s) d
   have J:=(acw y H s).1
   rw[cx,bm]
   omega
 have h:=this l [];rw[dg,j2]at h;exact h
theorem bbn{w:ω}{t:Nat}{vs vh:Value}{C:Ch}{H:List Nat}(J:fs w t C)(d:chk eu C=.ok)(z:fewB C=true)(I:te w vs C.ab)(E:km w vh H)(U:H.length<=1000):Ent w t vs vh C H:=by
 have y:=gr d;refine⟨J,I,E,aho d,y.len,U,λs=>by have:=(acw y H s).1;omega,λs V=>?_⟩;obtain⟨k,rfl,Q⟩:=fq V;have:=(axu z Q).1;have O:aq C.ab (k:Int)=C.ab.getD k pz:=by unfold aq;rfl
 rw[O];omega
theorem apk(t:Nat)(a:Int)(vh vl:Value)(C:Ch)(H:List Nat)(l:List Int)(w:ω)(hT:fs w t C)(hk:chk eu C=.ok)(hF:fewB C=true)(hH:km w vh H)(hl:H.length<=1000)(hv:dd w vl l)(cl:l.length<=1000) :
 Calls prog 103 #[φ t 0,vh,ι a,vl] w λe w'=>e=.returned (.int .u32 ((bset (ae1 C.ab H a l).a C.ab.length:Nat):Int))/\κ w w':=by
 have bs:=gr hk;obtain⟨J,O,rfl,c0⟩:=br.slice hH;have b7:=aa (aog t J H.length O C w hT hF);have b3:=aa (λ(W:ω)(vs:Value)(Z:κ w W)(hS:te W vs C.ab)=>bbn (hT.below Z) hk hF hS (hH.below Z) hl);have ci:=aa (λ(W:ω)(vs:Value)(hS:te W vs C.ab)(hH:km W (.slice J H.length O) H)(hv:dd W vl l)=>a3l vs (.slice J H.length O) vl C.ab H l W hS hH hv (by have:=bs.len;omega) hl cl (λs=>acw bs H s));have cb:=aa hv;obtain⟨lA,ca,rfl,c1⟩:=br.slice hv;obtain⟨Q,a1⟩:∃Q:Bs,Q=⟨λ_=>false,λ_=>false⟩:=⟨_,rfl⟩;obtain⟨M,hM⟩:∃M:Bs,M=l.foldl (pB C.ab H (C.ab.length+2)) Q:=⟨_,rfl⟩;obtain⟨D,hD⟩:∃D:Bs,D=(uu C.ab H l).foldl (ld C.ab (tB C.ab) adB (pB C.ab H (C.ab.length+2)) a) M:=⟨_,rfl⟩;have cc:Hid (ae1 C.ab H a l=D):=aa (by rw[hD,hM,a1];rfl);have HM:=aa hM;have HD:=aa hD;have b0:Hid (qq C.ab.length Q.b<=C.ab.length+2):=aa (by rw[a1];show qq C.ab.length (λ_=>false)<=_;rw[atm];omega);have HZ:Hid (bset Q.a C.ab.length=0/\bset Q.b C.ab.length=0):=aa (by have h:bset (λ_=>false) C.ab.length=0:=(aau _ _).2 (by rw[gy];intro x _;simp);rw[a1];exact ⟨h,h⟩);have c3:(uu C.ab H l).length<=1000000:=by have:=arh bs H l;omega
 generalize uu C.ab H l=R at *;clear hT hk hF hH hv a1 hM hD;go_enter func103,ntmps103;go_wp2_with fail;refine b7.out.mono ?_;rintro e z⟨a0,vs,rfl,bb⟩;obtain⟨sA,av,rfl,c4⟩:=br.slice bb;have bt:=aa a0;have HN:=aa (b3.out z _ a0 bb);have b5:=aa (cb.out.below a0);have b2:Hid (EAt z t (.slice sA C.ab.length av) (.slice J H.length O) C.ab.length Q (z.alloc (.cells #[.slice sA C.ab.length av,.slice J H.length O,φ t 0,.int .u32 0,.int .u32 0] 196))):=aa ⟨ap z _,by rw[HZ.out.1,HZ.out.2];exact cg.new z 196 _⟩;have b4:Hid (gp (λb=>b≠z.heap.size) (z.alloc (.cells #[.slice sA C.ab.length av,.slice J H.length O,φ t 0,.int .u32 0,.int .u32 0] 196)) (.slice lA l.length ca) l):=aa (ajn b5.out (ap z _));clear a0 bb b7 b3;go_wp2_with fail;go_loopw [23] (λi wr=>∃(k:Nat)(d:Bs),k<=l.length/\i=ι (k:Int)/\Hid (EAt z t (.slice sA C.ab.length av) (.slice J H.length O) C.ab.length d wr)/\Hid (qq C.ab.length d.b<=C.ab.length+2)/\Hid (gp (λb=>b≠z.heap.size) wr (.slice lA l.length ca) l)/\Hid (M=(l.drop k).foldl (pB C.ab H (C.ab.length+2)) d)) (λi _=>l.length-(intOf i).toNat)
 case atStart=>exact ⟨0,Q,ar _,rfl,b2,b0,b4,HM⟩
 case round =>
  clear b2 b0 b4 HM;obtain⟨k,d,hk,rfl,y,I,HL,U⟩:=hrel;obtain⟨E,rfl⟩:∃E:ω,E=wr:=⟨_,rfl⟩;by_cases ad:k<l.length
  . obtain⟨mb,mo,bf,co,am,bk⟩:=(let ⟨_,_,h1,_,h3⟩:=HL.out;by injection h1 with e1 e2 e3;subst e1;exact h3 k _ (ae ad):∃b o,lA=some (δ b o)/\b<E.heap.size/\(d7 E b (o+k*1) l[k])/\_);subst bf;have d0:E.cell? (δ mb (mo+k))=some (ι l[k]):=(by have:=am;unfold d7 at this;rwa [bq]at this);have Y:=U.out;rw[bp ad,cx]at Y;have ba:=aa Y;generalize l[k]=x at *;clear am bk Y U;go_wp2_with fail;refine((alu HN.out _) x d _ y.out I.out).mono ?_;rintro e w6⟨rfl,al,ak⟩;have a4:=aa ak;have a9:=aa (HL.out.grown al λb _ Z h=>Z (by injection h));have a2:Hid (qq C.ab.length (pB C.ab H (C.ab.length+2) d x).b<=C.ab.length+2):=aa (a6 (zp _ (agf C.ab H _ d x)) I.out);clear al ak;go_wp2;go_roundw
    case rel=>exact ⟨k+1,_,by omega,by go_num,a4,a2,a9,ba⟩
    case measure=>simp[intOf];omega
  . obtain rfl:k=l.length:=(by omega);have V:=U.out;rw[bz,dv]at V;have ax:=aa V;clear V;have b6:=aa (ci.out E _ (HN.out.ab.below y.out.below) (HN.out.au.below y.out.below) (b5.out.below y.out.below));have p0:=y.out.cells.1.1;have p1:=y.out.cells.1.2.1;go_wp2_with fail;refine b6.out.mono ?_;rintro e w2⟨b8,v2,rfl,b9⟩;have a3:=aa (y.out.kept b8);rw[<-ax.out]at a3 I;have b1:=aa I.out;have a5:Hid (gp (λb=>b≠z.heap.size) w2 v2 R):=aa (gp.fg b9 λb Z=>by have:=y.out.lt;omega);obtain⟨rA,cv,rfl,c2⟩:=br.slice a5.out;clear b8 b9 y I ax b6 p0 p1;go_wp2_with fail;go_loopw [35] (λi wr=>∃(k:Nat)(d:Bs),k<=R.length/\i=ι (k:Int)/\Hid (EAt z t (.slice sA C.ab.length av) (.slice J H.length O) C.ab.length d wr)/\Hid (qq C.ab.length d.b<=C.ab.length+2)/\Hid (gp (λb=>b≠z.heap.size) wr (.slice rA R.length cv) R)/\Hid (D=(R.drop k).foldl (ld C.ab (tB C.ab) adB (pB C.ab H (C.ab.length+2)) a) d)) (λi _=>R.length-(intOf i).toNat)
    case atStart=>exact ⟨0,M,ar _,rfl,a3,b1,a5,HD⟩
    case round =>
     clear a3 b1 a5 HD HL ad hk;obtain⟨k,d,hk,rfl,y,I,HL,U⟩:=hrel;obtain⟨E,rfl⟩:∃E:ω,E=wr:=⟨_,rfl⟩;by_cases ad:k<R.length
     . obtain⟨mb,mo,bf,co,am,bk⟩:=(let ⟨_,_,h1,_,h3⟩:=HL.out;by injection h1 with e1 e2 e3;subst e1;exact h3 k _ (ae ad):∃b o,rA=some (δ b o)/\b<E.heap.size/\(d7 E b (o+k*1) R[k])/\_);subst bf;have d0:E.cell? (δ mb (mo+k))=some (ι R[k]):=(by have:=am;unfold d7 at this;rwa [bq]at this);have Y:=U.out;rw[bp ad,cx]at Y;have ba:=aa Y;generalize R[k]=x at *;clear am bk Y U;go_wp2_with fail;refine(ag5 HN.out (alu HN.out _) x a d _ y.out I.out).mono ?_;rintro e w6⟨rfl,al,ak⟩;have a4:=aa ak;have a9:=aa (HL.out.grown al λb _ Z h=>Z (by injection h));have a2:Hid (qq C.ab.length (ld C.ab (tB C.ab) adB (pB C.ab H (C.ab.length+2)) a d x).b<=C.ab.length+2):=aa (a6 (zp _ (an8 (agf C.ab H _) a (wx C.ab x) d)) I.out);clear al ak;go_wp2;go_roundw
       case rel=>exact ⟨k+1,_,by omega,by go_num,a4,a2,a9,ba⟩
       case measure=>simp[intOf];omega
     . obtain rfl:k=R.length:=(by omega);have V:=U.out;rw[bz,dv]at V;have ax:=aa V;clear V;have q3:=y.out.cells.2.1;go_wp2;go_ret;exact⟨cw (by rw[cc.out,ax.out]),bt.out.trans (y.out.below.mono bt.out.size)⟩
theorem qt(E s:Int)(vs vt:Value)(C:Ch)(w:ω)(z:d8 w vs vt C)(O:C.ab.length<=1000) :
 Calls prog 108 #[.agg #[ι E,vs,vt],ι s] w λe I=>e=.returned (.bool (c6 C.ab s))/\κ w I:=by
 obtain⟨A,F,rfl,J⟩:=br.slice z.1;have y:=aa (ap w (bu E (.slice A C.ab.length F) vt));clear z;by_cases h:0<=s
 . have d:decide (0<=s)=true:=(by simpa using h);go_enter func108,ntmps108;go_wp2;go_ret;exact⟨az (by unfold c6;rw[d];rfl),y⟩
 . have d:decide (0<=s)=false:=(by simpa using h);go_enter func108,ntmps108;go_wp2;go_ret;exact⟨az (by unfold c6;rw[d];rfl),y⟩
def stD(S:List St)(H:List Nat)(s:Int):List Int:=if ir H s≠0 then qx (cm (ir H s)) 32 else (aq S s).ip
theorem aka(vr:Int)(vs vt vh:Value)(C:Ch)(H:List Nat)(k:Nat)(Q w:ω)(d:κ Q w)(V:d8 Q vs vt C)(Y:km Q vh H)(hl:C.ab.length<=1000)(cb:H.length<=1000)(hk:k<C.ab.length) :
 Calls prog 169 #[.agg #[ι vr,vs,vt],vh,ι (k:Int)] w (ag9 Q.heap.size (stD C.ab H (k:Int)) w):=by
 obtain⟨i0,hi,bs,bt,a2⟩:=info_parts Tryz.info3;have HI:=aa hi;have b1:=aa bs;have b2:=aa bt;have b3:=aa a2;clear hi bs bt a2;have HH:=aa Y;have a4:=aa d;obtain⟨hA,ci,rfl,co⟩:=br.slice Y;by_cases z:ir H (k:Int)=0
 . have HR:=aa (show stD C.ab H (k:Int)=(aq C.ab (k:Int)).ip by unfold stD;rw[ah (by rw[z];simp)]);obtain⟨b,o,ad,vi,ve,vx,rfl,cl,ba,a1,al⟩:=V.st hk;have F:=aa al;obtain⟨iA,b9,eA,ca,xA,db,rfl,rfl,rfl⟩:=al.slices;have b4:=c8 ba d.size;have E:=aa (ap w (bu vr (.slice (some (δ b o)) C.ab.length ad) vt));have b8:=(a1.below d ba).below E b4;obtain⟨c0,c1,c2,c3,c4⟩:=b8;have a3:Hid (ag9 Q.heap.size (stD C.ab H (k:Int)) w (.returned (.slice iA (aq C.ab (k:Int)).ip.length b9)) (w.alloc (bu vr (.slice (some (δ b o)) C.ab.length ad) vt))):=aa ⟨E,_,rfl,by rw[HR.out];exact ((gp.amv (K:=λb=>b<Q.heap.size\/w.heap.size<=b) F.1 (λb h=>.inl h)).below a4).below E⟩;by_cases a0:k<H.length
   . obtain⟨y,O,b6,hv,_,Z,J,_⟩:=HH.at a0;injection hv with e1 e2 e3;subst e1;subst e3;rw[z]at J;have ax:=(E.cell (p:=(δ y (O+k))) (c8 Z d.size)).trans ((d.cell (p:=(δ y (O+k))) Z).trans J);have bb:decide ((H.length:Int)<=(k:Int))=false:=(by simp;omega);generalize (aq C.ab (k:Int)).ip.length=il at *;clear d V Y a1 al z J;go_enter func169,ntmps169;go_wp2;go_ret;exact a3.out
   . have bb:decide ((H.length:Int)<=(k:Int))=true:=(by simp;omega);generalize (aq C.ab (k:Int)).ip.length=il at *;clear d V Y a1 al z;go_enter func169,ntmps169;go_wp2;go_ret;exact a3.out
 . have HR:=aa (show stD C.ab H (k:Int)=qx (cm (ir H (k:Int))) 32 by unfold stD;rw[ao z]);have a0:k<H.length:=by
    rcases et k H.length with h | h
    . exact h
    . exact absurd (by unfold ir;simp[List.getD,cn h]) z
   obtain⟨y,O,b6,hv,_,Z,J,b7⟩:=HH.at a0;injection hv with e1 e2 e3;subst e1;subst e3;obtain⟨sA,ad,rfl,_⟩:=br.slice V.1;have E:=aa (ap w (bu vr (.slice sA C.ab.length ad) vt));have b5:=c8 Z d.size;have a5:Hid (∀W,κ w W->W.cell? (δ y (O+k))=some (.int .u32 (ir H (k:Int):Int))):=aa (λW h=>(h.cell (p:=(δ y (O+k))) b5).trans ((a4.cell (p:=(δ y (O+k))) Z).trans J));generalize ir H (k:Int)=h at *;have a2:((h:Int)==0)=false:=fw (by omega);have ax:=a5.out _ E;have bb:decide ((H.length:Int)<=(k:Int))=false:=(by simp;omega);clear d V Y z J;go_enter func169,ntmps169;go_wp2_with fail;go_loopw [7,8] (λv i wr=>∃(m:Nat),m<=32/\i=ι (m:Int)/\κ (w.alloc (bu vr (.slice sA C.ab.length ad) vt)) wr/\Hid (wr.ownsRow (w.heap.size+1) 3 1 v (qx (cm h) m).length (bg (qx (cm h) m)))) (λ_ i _=>32-(intOf i).toNat)
   case atStart=>exact ⟨0,ar _,rfl,ag _ _,aa (bd _ _ _ _)⟩
   case round =>
    clear ax;obtain⟨m,hm,rfl,ak,am⟩:=hrel;obtain⟨U,rfl⟩:∃U:ω,U=wr:=⟨_,rfl⟩;have HB:=aa ak;have ax:=a5.out U (aj ak);have cc:w.heap.size+1<=U.heap.size:=(by have:=ak.size;simpa using this);have a9:=aa (abh (cm h) m);have cv:=ads (cm h) m;have F:=aa (m0 h m b7 (by omega) U);clear ak;by_cases c7:m<32
    . cases I:cm h m with
      | true =>
       have hd:decide (h / 2^m%2=1)=true:=I;rw[hd]at F;have av:=aa I;clear I hd;go_wp2_with fail;refine F.mono ?_;rintro e w1⟨rfl,rfl⟩;go_wp2_with (at_builtin;refine wpList_append_own_at _ rfl _ _ 36 rfl (w.heap.size+1) 3 i0 (ι 0) 1 8 underlying36 HI b1 b2 b3 rfl (by decide) _ _ _ rfl (am.out.alloc _) (δ U.heap.size 0) 1 1 [ι (m:Int)] rfl rfl ?c1 ?c2 ?c3 ?c4 ?c5 ?_)
       case c1=>exact g8 _ _ _ _ (by simp)
       case c2=>exact fl _
       case c3=>unfold maxLen;omega
       case c4=>omega
       case c5=>simp;omega
       intro v' w2 bk bf _ _;have HG:=aa (ck (HB.alloc HB.size _) bf (by simp;omega) (λg hg=>by have:=(am.out.lt g hg).1;simpa using this));have b0:=aa bk;clear bk bf;go_wp2;go_roundw
       case rel=>exact ⟨m+1,by omega,by go_num,HG,aa (by rw[a9.out,ao av.out,dp];simpa using b0.out)⟩
       case measure=>simp[intOf];omega
      | false =>
       have hd:decide (h / 2^m%2=1)=false:=I;rw[hd]at F;have av:=aa I;clear I hd;go_wp2_with fail;refine F.mono ?_;rintro e w1⟨rfl,rfl⟩;go_wp2;go_roundw
       case rel=>exact ⟨m+1,by omega,by go_num,HB,aa (by rw[a9.out,ah (by rw[av.out];simp),dz];exact am.out)⟩
       case measure=>simp[intOf];omega
    . obtain rfl:m=32:=(by omega);go_wp2;go_ret;exact⟨aj HB,_,rfl,by rw[HR.out];exact gp.fg am.out λb y=>.inr (by omega)⟩
def dnF(S:List St)(s:Int):Nat->List Int
 | 0=>[]
 | m+1=>(if jc S s (m:Int)=true then [(m:Int)] else [])++dnF S s m
theorem apt(S:List St)(s:Int)(a:Nat):∀m:Nat,a<=m->(∀y:Nat,a<=y->y<m->jc S s (y:Int)=false)->dnF S s m=dnF S s a
 | 0, h, _ => by
  obtain rfl : a = 0 := by omega
  rfl
 | m+1,h,d=>by
  by_cases E:a=m+1
  . rw[E]
  . rw[dnF,ah (by rw[d m (by omega) (by omega)];simp),ql];exact apt S s a m (by omega) λy z F=>d y z (by omega)
theorem ax2(S:List St)(s d:Int):∀m:Nat,(∀y:Nat,y<m->jc S s (y:Int)=jc S d (y:Int))->dnF S s m=dnF S d m
 | 0,_=>rfl
 | m+1,h=>by rw[dnF,dnF,h m (by omega),ax2 S s d m λy z=>h y (by omega)]
theorem a5l(S:List St):∀(n:Nat)(s:Int),s.toNat<=n->dnF S s s.toNat=wx S s
 | n,s,Q=>by
  unfold wx;rw[qm];by_cases z:lu S s<0
  . rw[ao z,apt S s 0 _ (ar _) λy _ _=>by rw[ah1,ao z]];rfl
  . rw[ah z];obtain⟨V,W,Y⟩:=n5 (S:=S) (s:=s) (by omega);obtain⟨q,d⟩:∃q:Nat,lu S s=(q:Int):=⟨(lu S s).toNat,by omega⟩;have I:q+1<=s.toNat:=(by omega);rw[d];rw[apt S s (q+1) _ I λy J O=>by rw[ah1,d,ah (by omega),ah (by omega),Bool.eq_false_iff];intro F;have:=lm F;omega];rw[dnF,ao (by rw[ah1,d,ah (by omega),ao rfl])];rw[ax2 S s (q:Int) q λy U=>by rw[ah1 S s,d,ah (by omega),ah (by omega)]];cases n with
    | zero=>omega
    | succ n =>have E:=a5l S n (q:Int) (by omega);rw[show ((q:Int)).toNat=q by omega]at E;rw[E];unfold wx;rw[am1 S s.toNat ((q:Int).toNat+1) (lu S (q:Int)) (by rcases zx S (q:Int) with h | h<;>omega) (by rcases zx S (q:Int) with h | h<;>omega)];rfl
theorem akh(V:Int)(vs vt:Value)(C:Ch)(k:Nat)(w:ω)(hC:d8 w vs vt C)(hl:C.ab.length<=1000)(hk:k<C.ab.length) :
 Calls prog 171 #[.agg #[ι V,vs,vt],ι (k:Int)] w (ab0 (wx C.ab (k:Int)) w):=by
 obtain⟨i0,hi,am,av,ax⟩:=info_parts Tryz.info3;have HI:=aa hi;have a2:=aa am;have a3:=aa av;have a4:=aa ax;clear hi am av ax;have a0:=aa (λ(W:ω)(h:κ (w.alloc (bu V vs vt)) W)(b:Int)=>ze V b vs vt C (by unfold dw;omega) _ (k:Int) W (ai _) (hC.below (aj h)));have U:=aa (show wx C.ab (k:Int)=dnF C.ab (k:Int) k from (a5l C.ab _ (k:Int) (ai _)).symm);generalize wx C.ab (k:Int)=R at *;have al:∀m,(dnF C.ab (k:Int) m).length<=m:=by
  intro m
  induction m with
  | zero=>simp[dnF]
  | succ m ih=>rw[dnF,aw];split<;>simp<;>omega
 have a5:=aa al;clear hC al;go_enter func171,ntmps171;go_wp2_with fail;go_loopw [5,6] (λv p wr=>∃(m:Nat)(y:List Int),m<=k/\y.length+m<=k/\p=ι ((m:Int)-1)/\Hid (R=y++dnF C.ab (k:Int) m)/\κ (w.alloc (bu V vs vt)) wr/\Hid (wr.ownsRow (w.heap.size+1) 3 1 v y.length (bg y))) (λ_ p _=>(intOf p+1).toNat)
 case atStart=>exact ⟨k,[],ai _,by simp,by go_num,U,ag _ _,aa (bd _ _ _ _)⟩
 case round =>
  obtain⟨m,y,hm,ba,rfl,U,Y,Z⟩:=hrel;obtain⟨wo,rfl⟩:∃wo:ω,wo=wr:=⟨_,rfl⟩;obtain⟨x0,x1,x2⟩:=bc Y;have E:=aa Y;clear Y;by_cases h0:m=0
  . subst h0;have d:=U.out;rw[dnF,dz]at d;have J:=aa d;clear d;go_wp2;go_ret;exact⟨aj E,_,rfl,by rw[J.out];exact fp Z.out (by omega)⟩
  . obtain⟨j,rfl⟩:∃j,m=j+1:=⟨m-1,by omega⟩;have d:=U.out;rw[dnF,<-j4]at d;have e1:((j+1:Nat):Int)-1=(j:Int):=(by omega);rw[e1];have bb:decide (0<=(j:Int))=true:=(by simp);have O:=aa (a0 wo E (j:Int));cases F:jc C.ab (k:Int) (j:Int) with
    | true =>
     rw[F]at O;rw[F,ao rfl]at d;have J:=aa d;clear d F;go_wp2_with fail;refine O.mono ?_;rintro e w1⟨rfl,z⟩;have I:=aa (E.trans (z.mono E.size));have Q:=aa (bl Z.out z);have a9:w.heap.size+1<=w1.heap.size:=(by have:=I.size;simpa using this);clear z;go_wp2_with (at_builtin;refine wpList_append_own_at _ rfl _ _ 36 rfl (w.heap.size+1) 3 i0 (ι 0) 1 8 underlying36 HI a2 a3 a4 rfl (by decide) _ _ _ rfl (Q.alloc _) (δ w1.heap.size 0) 1 1 [ι (j:Int)] rfl rfl ?c1 ?c2 ?c3 ?c4 ?c5 ?_)
     case c1=>exact g8 _ _ _ _ (by simp)
     case c2=>exact fl _
     case c3=>unfold maxLen;omega
     case c4=>omega
     case c5=>simp;omega
     intro v' w2 ak ad _ _;have HG:=aa (ck (I.alloc I.size _) ad (by simp;omega) (λg hg=>by have:=(Q.lt g hg).1;simpa using this));have a1:=aa ak;clear ak ad;go_wp2;go_roundw
     case rel=>exact ⟨j,y ++ [(j:Int)],by omega,by simp;omega,by go_num,J,HG,aa (by rw[dp];simpa using a1.out)⟩
     case measure=>simp[intOf]
    | false =>
     rw[F]at O;rw[F,ah (by simp),dz]at d;have J:=aa d;clear d F;go_wp2_with fail;refine O.mono ?_;rintro e w1⟨rfl,z⟩;have I:=aa (E.trans (z.mono E.size));have Q:=aa (bl Z.out z);clear z;go_wp2;go_roundw
     case rel=>exact ⟨j,y,by omega,by omega,by go_num,J,I,Q⟩
     case measure=>simp[intOf]
def rIn(S:List St)(acc:List Int)(x:Int):List Int:=if c6 S x=false\/acc.contains x=true then acc else acc ++ [x]
def stM(S:List St)(H:List Nat)(s:Int):List Int:=if ct (aq S s).kind=true then stD S H s else [s]
def yj(S:List St)(H:List Nat)(acc:List Int)(s:Int):List Int:=if c6 S s=false then acc else (stM S H s).foldl (rIn S) acc
theorem yk{S:List St}{acc:List Int}{x:Int}(h:c6 S x=true):rIn S acc x=ka acc x:=by unfold rIn ka;rw[h];simp
theorem aks{S:List St}{acc:List Int}{x:Int}(h:c6 S x=false):rIn S acc x=acc:=by unfold rIn;rw[ao (.inl h)]
theorem ale(S:List St)(P:Nat->Bool):∀(m:Nat)(acc:List Int),S.length<=m->(qx P m).foldl (rIn S) acc=(agk S P).foldl ka acc
 | m,acc,h=>by
  by_cases E:m=S.length
  . rw[E];show(agk S P).foldl (rIn S) acc=_;have:∀(L acc:List Int),(∀x∈L,c6 S x=true)->L.foldl (rIn S) acc=L.foldl ka acc:=by
     intro L
     induction L with
     | nil=>intro acc _;rfl
     | cons x L J=>intro acc d;rw[cx,cx,yk (d x (by simp)),J _ λy I=>d y (by simp[I])]
    exact this _ _ λx d=>ak2 d
  . obtain⟨q,rfl⟩:∃q,m=q+1:=⟨m-1,by omega⟩;rw[abh,List.foldl_append,ale S P q acc (by omega)];split
    . have F:c6 S (q:Int)=false:=by
       cases z:c6 S (q:Int) with
       | false=>rfl
       | true=>have:=fj.1 z;omega
      rw[cx,dv,aks F]
    . rfl
theorem auz{S:List St}(y:l1 S)(H:List Nat)(acc:List Int)(s:Int):yj S H acc s=(za S H s).foldl ka acc:=by
 unfold yj za;cases z:c6 S s with
 | false=>rfl
 | true =>
  rw[ah (by simp),ah (by simp)]
  unfold stM
  cases I:ct (aq S s).kind with
  | false =>
   rw[ah (by simp),ao rfl,cx,dv,cx,dv,yk z]
  | true =>
   rw[ao rfl,ah (by simp)]
   unfold stD
   by_cases d:ir H s≠0
   . rw[ao d,ao d,ale S _ 32 acc (by have:=y.len;omega)]
   . rw[ah d,ah d]
     obtain⟨t,E,F,_⟩:=y.a1l s z I
     rw[E,cx,dv,cx,dv,yk F]
theorem azn{S:List St}(d:l1 S)(H:List Nat)(l:List Int):uu S H l=l.foldl (yj S H) []:=by unfold uu;congr 1;funext acc s;exact(auz d H acc s).symm
theorem a7k{S:List St}{H:List Nat}(y:l1 S){s:Int}(E:c6 S s=true):(stM S H s).length<=32:=by
 unfold stM;split
 . rename_i z;unfold stD;split
   . exact ads _ _
   . obtain⟨t,d,_⟩:=y.a1l s E z;rw[d];simp
 . simp
theorem afy(acc:List Int)(x:Int){j:Nat}(h:j<acc.length):(acc.take (j+1)).contains x=((acc.take j).contains x||acc[j]==x):=by
 rw[cp h,dh];simp only[List.contains_iff_mem,j9,cf,im,beq_iff_eq];constructor
 . rintro(h | h)
   . exact .inl h
   . exact .inr h.symm
 . rintro(h | h)
   . exact .inl h
   . exact .inr h.symm
theorem azd(I:Int)(vs vt vh vl:Value)(C:Ch)(H:List Nat)(l:List Int)(w:ω)(hC:d8 w vs vt C)(hH:km w vh H)(hv:dd w vl l)(e4:l1 C.ab)(g4:H.length<=1000)(hr:l.length<=1000) :
 Calls prog 110 #[.agg #[ι I,vs,vt],vh,vl] w (ab0 (uu C.ab H l) w):=by
 obtain⟨i0,hi,gl,gs,gu⟩:=info_parts Tryz.info3;have HI:=aa hi;have f8:=aa gl;have f9:=aa gs;have gb:=aa gu;clear hi gl gs gu;rw[azn e4];have hp:=e4.len;have HC:=aa hC;have HH:=aa hH;have gv:=aa g4;obtain⟨Q,U,rfl,hs⟩:=br.slice hC.1;obtain⟨lA,ev,rfl,ho,he⟩:=hv;have HE:=aa he;have g3:=aa (λs(h:c6 C.ab s=true)=>a7k (H:=H) e4 h);obtain⟨R,fn⟩:∃R,R=l.foldl (yj C.ab H) []:=⟨_,rfl⟩;rw[<-fn];have HR:=aa fn;clear hC hH he fn e4;go_enter func110,ntmps110;go_wp2_with fail;go_loopw [7,8] (λv i wr=>∃(k:Nat)(am:List Int),k<=l.length/\am.length<=k*32/\i=ι (k:Int)/\Hid (R=(l.drop k).foldl (yj C.ab H) am)/\Hid (κ (w.alloc (bu I (.slice Q C.ab.length U) vt)) wr)/\Hid (wr.ownsRow (w.heap.size+1) 3 1 v am.length (bg am))) (λ_ i _=>l.length-(intOf i).toNat)
 case atStart=>exact ⟨0,[],ar _,ar _,rfl,HR,aa (ag _ _),aa (bd _ _ _ _)⟩
 case round =>
  clear HR;obtain⟨k,am,hk,c0,rfl,HR,HB,av⟩:=hrel;obtain⟨wo,rfl⟩:∃wo:ω,wo=wr:=⟨_,rfl⟩;obtain⟨x0,x1,x2⟩:=bc HB.out;by_cases gi:k<l.length
  . obtain⟨b,o,rfl,ha,hc⟩:=HE.out k _ (ae gi);have a3:Hid (∀W,κ w W->W.cell? (δ b (o+k))=some (ι l[k])):=aa (λW hW=>by have:=d7.keeps w W b _ _ hW ha hc;unfold d7 at this;rwa [bq]at this);have co:=aa (HR.out.trans (nf _ l k gi am));generalize l[k]=s at *;clear hc HR;cases b1:c6 C.ab s with
    | false =>
     have e6:=aa b1;have cv:Hid (yj C.ab H am s=am):=aa (by unfold yj;rw[ao b1]);clear b1;go_wp2_with fail;clear x0 x1 x2;refine cr (λW=>(W.cell? (δ w.heap.size 0)=some (ι I)/\W.cell? (δ w.heap.size 1)=some (.slice Q C.ab.length U)/\W.cell? (δ w.heap.size 2)=some vt)/\W.cell? (δ b (o+k))=some (ι s)) [] ?_;have ax:=aa HB.out.drew;have b6:Hid (((wo).drew.cell? (δ w.heap.size 0)=some (ι I)/\(wo).drew.cell? (δ w.heap.size 1)=some (.slice Q C.ab.length U)/\(wo).drew.cell? (δ w.heap.size 2)=some vt)/\(wo).drew.cell? (δ b (o+k))=some (ι s)):=aa ⟨bc ax.out,a3.out _ (aj ax.out)⟩;refine a7 0 (.agg #[ι I,.slice Q C.ab.length U,vt]) (b6.out) ?_;refine af 1 (.slice (some (δ b o)) l.length ev) ?_;refine af 2 (ι (k:Int)) ?_;refine af 3 (φ b (o+k)) ?_;refine a7 4 (ι s) (b6.out) ?_;try simp only[Act.put,sx]
     refine a8 5 (λK HK=>?_);go_simp;refine(qt I s _ vt C _ (HC.out.below (aj ax.out)) (by omega)).mono ?_;rintro e w1⟨rfl,ca⟩;have a2:=aa (ax.out.trans (ca.mono ax.out.size));have cl:=aa (bl (bl av.out (ag _ wo).drew) ca);rw[e6.out];clear ca;go_simp;refine HK.out _ _ (λ_ hS=>⟨bc a2.out,a3.out _ (aj a2.out)⟩) ?_;clear HK K;try simp only[Act.put,sx]
     refine af 6 (.bool true) ?_;try simp only[Act.put,sx]
     refine ce ?_;rw[cv.out]at co;go_wp2;go_roundw
     case rel=>exact ⟨k+1,am,by omega,by omega,by go_num,co,a2,cl⟩
     case measure=>simp[intOf];omega
    | true =>
     have e6:=aa b1
     have f6:=aa (g3.out s b1)
     have cv:Hid (yj C.ab H am s=(stM C.ab H s).foldl (rIn C.ab) am):=aa (by unfold yj;rw[ah (by rw[b1];simp)])
     obtain⟨F,rfl,f3⟩:=fq b1
     clear b1
     go_wp2_with fail
     clear x0 x1 x2
     refine cr (λW=>(W.cell? (δ w.heap.size 0)=some (ι I)/\W.cell? (δ w.heap.size 1)=some (.slice Q C.ab.length U)/\W.cell? (δ w.heap.size 2)=some vt)/\W.cell? (δ b (o+k))=some (ι (F:Int))) [] ?_
     have ax:=aa HB.out.drew
     have b6:Hid (((wo).drew.cell? (δ w.heap.size 0)=some (ι I)/\(wo).drew.cell? (δ w.heap.size 1)=some (.slice Q C.ab.length U)/\(wo).drew.cell? (δ w.heap.size 2)=some vt)/\(wo).drew.cell? (δ b (o+k))=some (ι (F:Int))):=aa ⟨bc ax.out,a3.out _ (aj ax.out)⟩
     refine a7 0 (.agg #[ι I,.slice Q C.ab.length U,vt]) (b6.out) ?_
     refine af 1 (.slice (some (δ b o)) l.length ev) ?_
     refine af 2 (ι (k:Int)) ?_
     refine af 3 (φ b (o+k)) ?_
     refine a7 4 (ι (F:Int)) (b6.out) ?_
     try simp only[Act.put,sx]
     refine a8 5 (λK HK=>?_)
     go_simp
     refine(qt I (F:Int) _ vt C _ (HC.out.below (aj ax.out)) (by omega)).mono ?_
     rintro e w1⟨rfl,ca⟩
     have a2:=aa (ax.out.trans (ca.mono ax.out.size))
     have cl:=aa (bl (bl av.out (ag _ wo).drew) ca)
     rw[e6.out]
     clear ca
     go_simp
     refine HK.out _ _ (λ_ hS=>⟨bc a2.out,a3.out _ (aj a2.out)⟩) ?_
     clear HK K
     try simp only[Act.put,sx]
     refine af 6 (.bool false) ?_
     try simp only[Act.put,sx]
     refine ce ?_
     have d1:=a3.out _ (aj a2.out)
     have f4:=aa (a2.out.alloc a2.out.size (.cells #[ι (F:Int)] 3))
     have f7:=aa (cl.out.alloc (.cells #[ι (F:Int)] 3))
     have db:Hid (gp (λb=>some b≠u7.ownBlock) (w1.alloc (.cells #[ι (F:Int)] 3)) (.slice (some (δ w1.heap.size 0)) 1 1) [(F:Int)]):=aa ((gp.aqe (n:=0) (m:=w1.heap.size) (akw _ (cg.new w1 3 _)) (ai _)).mono λb _ hb he=>by
      have:=cl.out.lt b he.symm
      omega)
     cases hh:ct (aq C.ab (F:Int)).kind with
     | false =>
      have ex:=aa hh
      have gk:stM C.ab H (F:Int)=[(F:Int)]:=by unfold stM;rw[ah (by rw[hh];simp)]
      rw[<-gk]at db
      clear hh gk
      go_wp2_with fail
      clear d1
      refine cr (λW=>(W.cell? (δ w.heap.size 0)=some (ι I)/\W.cell? (δ w.heap.size 1)=some (.slice Q C.ab.length U)/\W.cell? (δ w.heap.size 2)=some vt)/\W.cell? (δ b (o+k))=some (ι (F:Int))) [] ?_
      have a0:=aa f4.out.drew
      have b7:Hid (((w1.alloc (.cells #[ι (F:Int)] 3)).drew.cell? (δ w.heap.size 0)=some (ι I)/\(w1.alloc (.cells #[ι (F:Int)] 3)).drew.cell? (δ w.heap.size 1)=some (.slice Q C.ab.length U)/\(w1.alloc (.cells #[ι (F:Int)] 3)).drew.cell? (δ w.heap.size 2)=some vt)/\(w1.alloc (.cells #[ι (F:Int)] 3)).drew.cell? (δ b (o+k))=some (ι (F:Int))):=aa ⟨bc a0.out,a3.out _ (aj a0.out)⟩
      refine a7 0 (.agg #[ι I,.slice Q C.ab.length U,vt]) (b7.out) ?_
      refine af 1 (.slice (some (δ b o)) l.length ev) ?_
      refine af 2 (ι (k:Int)) ?_
      refine af 3 (φ b (o+k)) ?_
      refine a7 4 (ι (F:Int)) (b7.out) ?_
      try simp only[Act.put,sx]
      refine a8 5 (λK HK=>?_)
      go_simp
      refine(acs I _ vt C F _ (HC.out.below (aj a0.out)) (by omega) f3).mono ?_
      rintro e w3⟨rfl,bf⟩
      have b0:=aa (a0.out.trans (bf.mono a0.out.size))
      have d3:=aa (bl (bl f7.out (ag _ (w1.alloc (.cells #[ι (F:Int)] 3))).drew) bf)
      have e0:=aa ((db.out.below (ag _ (w1.alloc (.cells #[ι (F:Int)] 3))).drew).below bf)
      rw[ex.out]
      clear bf
      go_simp
      refine HK.out _ _ (λ_ hS=>⟨bc b0.out,a3.out _ (aj b0.out)⟩) ?_
      clear HK K
      try simp only[Act.put,sx]
      refine af 6 (.bool false) ?_
      try simp only[Act.put,sx]
      refine ce ?_
      go_wp2_with fail
      generalize stM C.ab H (F:Int)=M at *
      generalize Value.slice (some (δ w1.heap.size 0)) 1 1=SL at *
      obtain⟨mA,bt,rfl,hf⟩:=br.slice e0.out
      have ds:=e0
      have c7:=b0
      have dy:=d3
      have d4:Hid (R=(l.drop (k+1)).foldl (yj C.ab H) (M.foldl (rIn C.ab) am)):=aa (by rw[co.out,cv.out])
      have hl:M.length<=32:=f6.out
      clear db ax a0 b6 b7 av HB
      go_wp2_with fail
      go_loopw [7,11] (λv i wr=>∃(m:Nat)(d:List Int),m<=M.length/\d.length<=k*32+m/\i=ι (m:Int)/\Hid (R=(l.drop (k+1)).foldl (yj C.ab H) ((M.drop m).foldl (rIn C.ab) d))/\Hid (κ (w.alloc (bu I (.slice Q C.ab.length U) vt)) wr)/\Hid (wr.ownsRow (w.heap.size+1) 3 1 v d.length (bg d))/\Hid (gp (λb=>some b≠v.ownBlock) wr (.slice mA M.length bt) M)) (λ_ i _=>M.length-(intOf i).toNat)
      case atStart=>exact ⟨0,am,ar _,c0,rfl,d4,c7,dy,ds⟩
      case round =>
       clear d4 c7 dy ds co cv c0 cl a2
       obtain⟨m,d,hm,c0,rfl,HR,HB,av,HM⟩:=hrel
       obtain⟨E,rfl⟩:∃E:ω,E=wr:=⟨_,rfl⟩
       obtain⟨x0,x1,x2⟩:=bc HB.out
       by_cases eg:m<M.length
       . obtain⟨oA,hn,rfl⟩:=sd av.out
         obtain⟨O,V,fv,f0,ek,f1⟩:=(let ⟨_,_,h1,_,h3⟩:=HM.out;by injection h1 with e1 e2 e3;subst e1;exact h3 m _ (ae eg):∃b o,mA=some (δ b o)/\b<E.heap.size/\(d7 E b (o+m*1) M[m])/\_)
         subst fv
         have a9:Hid (E.drew.cell? (δ O (V+m))=some (ι M[m])):=aa (by have:=ek;unfold d7 at this;rw[bq]at this;exact this)
         have b5:=aa (HR.out.trans (congrArg (λz=>(l.drop (k+1)).foldl (yj C.ab H) z) (nf _ M m eg d)))
         have b3:Hid (O<E.drew.heap.size):=aa f0
         generalize M[m]=x at *
         clear ek f1 HR
         cases bk:c6 C.ab x with
         | false =>
          have a1:=aa bk
          clear bk
          go_wp2_with fail
          clear x0 x1 x2
          refine cr (λW=>(W.cell? (δ w.heap.size 0)=some (ι I)/\W.cell? (δ w.heap.size 1)=some (.slice Q C.ab.length U)/\W.cell? (δ w.heap.size 2)=some vt)/\W.cell? (δ O (V+m))=some (ι x)) [] ?_
          have al:=aa HB.out.drew
          have a5:Hid ((E.drew.cell? (δ w.heap.size 0)=some (ι I)/\E.drew.cell? (δ w.heap.size 1)=some (.slice Q C.ab.length U)/\E.drew.cell? (δ w.heap.size 2)=some vt)/\E.drew.cell? (δ O (V+m))=some (ι x)):=aa ⟨bc al.out,a9.out⟩
          refine a7 0 (.agg #[ι I,.slice Q C.ab.length U,vt]) (a5.out) ?_
          refine af 1 (.slice (some (δ O V)) M.length bt) ?_
          refine af 2 (ι (m:Int)) ?_
          refine af 3 (φ O (V+m)) ?_
          refine a7 4 (ι x) (a5.out) ?_
          try simp only[Act.put,sx]
          refine a8 5 (λK HK=>?_)
          go_simp
          refine(qt I x _ vt C _ (HC.out.below (aj al.out)) (by omega)).mono ?_
          rintro e w6⟨rfl,Z⟩
          have ak:=aa (al.out.trans (Z.mono al.out.size))
          have a4:=aa (bl (bl av.out (ag _ E).drew) Z)
          have bb:=aa ((HM.out.below (ag _ E).drew).below Z)
          have ba:=aa ((Z.cell (p:=(δ O (V+m))) b3.out).trans a9.out)
          have d5:Hid (E.drew.heap.size<=w6.heap.size):=aa Z.size
          rw[a1.out]
          clear Z
          go_simp
          refine HK.out _ _ (λ_ hS=>⟨bc ak.out,ba.out⟩) ?_
          clear HK K
          try simp only[Act.put,sx]
          refine af 6 (.bool true) ?_
          refine af 7 (.bool true) ?_
          try simp only[Act.put,sx]
          refine ce ?_
          go_wp2_with fail
          go_loopw [12,13] (λmv jv wr=>∃(j:Nat),j<=d.length/\jv=ι (j:Int)/\mv=.bool (true)/\Hid (κ w6 wr)) (λ_ jv _=>d.length-(intOf jv).toNat)
          case atStart=>exact ⟨0,ar _,rfl,rfl,aa (ag _ _)⟩
          case round =>
           obtain⟨j,hj,rfl,rfl,J⟩:=hrel
           obtain⟨Y,rfl⟩:∃Y:ω,Y=wr:=⟨_,rfl⟩
           by_cases cc:j<d.length
           . go_wp2_with fail
             go_quiet (fail)
             go_wp2
             go_roundw
             case rel=>exact ⟨j+1,by omega,by go_num,rfl,aa (bx J.out _)⟩
             case measure=>simp[intOf];omega
           . obtain rfl:j=d.length:=by omega
             go_wp2
             go_roundw
             case rel=>exact ⟨m+1,d,by omega,by omega,by go_num,aa (by rw[b5.out,aks a1.out]),aa (ak.out.trans (J.out.mono ak.out.size)),aa (bl a4.out J.out),aa (bb.out.below J.out)⟩
             case measure=>simp[intOf];omega
         | true =>
          have a1:=aa bk
          clear bk
          go_wp2_with fail
          clear x0 x1 x2
          refine cr (λW=>(W.cell? (δ w.heap.size 0)=some (ι I)/\W.cell? (δ w.heap.size 1)=some (.slice Q C.ab.length U)/\W.cell? (δ w.heap.size 2)=some vt)/\W.cell? (δ O (V+m))=some (ι x)) [] ?_
          have al:=aa HB.out.drew
          have a5:Hid ((E.drew.cell? (δ w.heap.size 0)=some (ι I)/\E.drew.cell? (δ w.heap.size 1)=some (.slice Q C.ab.length U)/\E.drew.cell? (δ w.heap.size 2)=some vt)/\E.drew.cell? (δ O (V+m))=some (ι x)):=aa ⟨bc al.out,a9.out⟩
          refine a7 0 (.agg #[ι I,.slice Q C.ab.length U,vt]) (a5.out) ?_
          refine af 1 (.slice (some (δ O V)) M.length bt) ?_
          refine af 2 (ι (m:Int)) ?_
          refine af 3 (φ O (V+m)) ?_
          refine a7 4 (ι x) (a5.out) ?_
          try simp only[Act.put,sx]
          refine a8 5 (λK HK=>?_)
          go_simp
          refine(qt I x _ vt C _ (HC.out.below (aj al.out)) (by omega)).mono ?_
          rintro e w6⟨rfl,Z⟩
          have ak:=aa (al.out.trans (Z.mono al.out.size))
          have a4:=aa (bl (bl av.out (ag _ E).drew) Z)
          have bb:=aa ((HM.out.below (ag _ E).drew).below Z)
          have ba:=aa ((Z.cell (p:=(δ O (V+m))) b3.out).trans a9.out)
          have d5:Hid (E.drew.heap.size<=w6.heap.size):=aa Z.size
          rw[a1.out]
          clear Z
          go_simp
          refine HK.out _ _ (λ_ hS=>⟨bc ak.out,ba.out⟩) ?_
          clear HK K
          try simp only[Act.put,sx]
          refine af 6 (.bool false) ?_
          refine af 7 (.bool false) ?_
          try simp only[Act.put,sx]
          refine ce ?_
          go_wp2_with fail
          go_loopw [12,13] (λmv jv wr=>∃(j:Nat),j<=d.length/\jv=ι (j:Int)/\mv=.bool ((d.take j).contains x)/\Hid (κ w6 wr)) (λ_ jv _=>d.length-(intOf jv).toNat)
          case atStart=>exact ⟨0,ar _,rfl,rfl,aa (ag _ _)⟩
          case round =>
           obtain⟨j,hj,rfl,rfl,J⟩:=hrel
           obtain⟨Y,rfl⟩:∃Y:ω,Y=wr:=⟨_,rfl⟩
           have d1:Y.cell? (δ O (V+m))=some (ι x):=(J.out.cell (p:=(δ O (V+m))) (c8 b3.out d5.out)).trans ba.out
           by_cases cc:j<d.length
           . have d6:=aa (afy d x cc)
             obtain⟨ob,oo,rfl,f2,el⟩:=(let ⟨_,_,h1,_,h3⟩:=dc a4.out;by injection h1 with e1 e2 e3;subst e1;exact h3 j _ (ae cc):∃b o,oA=some (δ b o)/\b<w6.heap.size/\(d7 w6 b (o+j*1) d[j]))
             have d2:Y.cell? (δ ob (oo+j))=some (ι d[j]):=by have:=d7.keeps w6 Y ob _ _ J.out f2 el;unfold d7 at this;rwa [bq]at this
             generalize d[j]=y at *
             clear el
             cases ad:(d.take j).contains x with
             | true =>
              have b8:Hid ((d.take (j+1)).contains x=true):=aa (by rw[d6.out,ad];rfl)
              clear ad
              go_wp2_with fail
              go_quiet (fail)
              go_wp2
              go_roundw
              case rel=>exact ⟨j+1,by omega,by go_num,by rw[b8.out],aa (bx J.out _)⟩
              case measure=>simp[intOf];omega
             | false =>
              have b8:Hid ((d.take (j+1)).contains x=(y==x)):=aa (by rw[d6.out,ad];rfl)
              clear ad
              go_wp2_with fail
              go_quiet (fail)
              go_wp2
              go_roundw
              case rel=>exact ⟨j+1,by omega,by go_num,by rw[b8.out],aa (bx J.out _)⟩
              case measure=>simp[intOf];omega
           . obtain rfl:j=d.length:=by omega
             have bs:d.take d.length=d:=ed
             cases ad:d.contains x with
             | true =>
              rw[bs,ad]
              have b4:=aa ad
              clear ad bs
              go_wp2
              go_roundw
              case rel=>exact ⟨m+1,d,by omega,by omega,by go_num,aa (by rw[b5.out,yk a1.out,aex b4.out]),aa (ak.out.trans (J.out.mono ak.out.size)),aa (bl a4.out J.out),aa (bb.out.below J.out)⟩
              case measure=>simp[intOf];omega
             | false =>
              rw[bs,ad]
              have b4:=aa ad
              have d0:=aa (bl a4.out J.out)
              have b2:=aa (ak.out.trans (J.out.mono ak.out.size))
              have e8:=aa (bb.out.below J.out)
              have hd:w.heap.size+1<=Y.heap.size:=by have:=b2.out.size;simpa using this
              clear ad bs
              go_wp2_with (at_builtin;refine wpList_append_own_at _ rfl _ _ 36 rfl (w.heap.size+1) 3 i0 (ι 0) 1 8 underlying36 HI.out f8.out f9.out gb.out rfl (by decide) _ _ _ rfl (d0.out.alloc _) (δ Y.heap.size 0) 1 1 [ι x] rfl rfl ?c1 ?c2 ?c3 ?c4 ?c5 ?_)
              case c1=>exact g8 _ _ _ _ (by simp)
              case c2=>exact fl _
              case c3=>unfold maxLen;omega
              case c4=>omega
              case c5=>simp;omega
              intro v' w2 er cb _ eb
              have HG:=aa (ck (b2.out.alloc b2.out.size _) cb (by simp;omega) (λg hg=>by have:=(d0.out.lt g hg).1;simpa using this))
              have e9:=aa er
              have e7:Hid (gp (λb=>some b≠v'.ownBlock) w2 (.slice (some (δ O V)) M.length bt) M):=aa (((((e8.out.mono λb hb hc=>(⟨hb,hc⟩:b<Y.heap.size/\some b≠_)).below (ap Y _)).grown cb λb _ hc=>hc.2).mono λb _ hc=>by
               rcases eb with h | h
               . rw[h];exact hc.2
               . rw[h];intro he;injection he with he;have:=hc.1;have h3:(Y.alloc (.cells #[ι x] 3)).heap.size=Y.heap.size+1:=by simp
                 omega))
              clear er cb eb
              go_wp2
              go_roundw
              case rel=>exact ⟨m+1,d ++ [x],by omega,by simp;omega,by go_num,aa (by rw[b5.out,yk a1.out,aey b4.out]),HG,aa (by rw[dp];simpa using e9.out),e7⟩
              case measure=>simp[intOf];omega
       . obtain rfl:m=M.length:=by omega
         have b9:=HR.out
         rw[bz,dv]at b9
         have fa:=aa b9
         clear b9
         go_wp2
         go_roundw
         case rel=>exact ⟨k+1,d,by omega,by omega,by go_num,fa,HB,av⟩
         case measure=>simp[intOf];omega
     | true =>
      have ex:=aa hh
      clear hh
      go_wp2_with fail
      clear d1
      refine cr (λW=>(W.cell? (δ w.heap.size 0)=some (ι I)/\W.cell? (δ w.heap.size 1)=some (.slice Q C.ab.length U)/\W.cell? (δ w.heap.size 2)=some vt)/\W.cell? (δ b (o+k))=some (ι (F:Int))) [] ?_
      have a0:=aa f4.out.drew
      have b7:Hid (((w1.alloc (.cells #[ι (F:Int)] 3)).drew.cell? (δ w.heap.size 0)=some (ι I)/\(w1.alloc (.cells #[ι (F:Int)] 3)).drew.cell? (δ w.heap.size 1)=some (.slice Q C.ab.length U)/\(w1.alloc (.cells #[ι (F:Int)] 3)).drew.cell? (δ w.heap.size 2)=some vt)/\(w1.alloc (.cells #[ι (F:Int)] 3)).drew.cell? (δ b (o+k))=some (ι (F:Int))):=aa ⟨bc a0.out,a3.out _ (aj a0.out)⟩
      refine a7 0 (.agg #[ι I,.slice Q C.ab.length U,vt]) (b7.out) ?_
      refine af 1 (.slice (some (δ b o)) l.length ev) ?_
      refine af 2 (ι (k:Int)) ?_
      refine af 3 (φ b (o+k)) ?_
      refine a7 4 (ι (F:Int)) (b7.out) ?_
      try simp only[Act.put,sx]
      refine a8 5 (λK HK=>?_)
      go_simp
      refine(acs I _ vt C F _ (HC.out.below (aj a0.out)) (by omega) f3).mono ?_
      rintro e w3⟨rfl,bf⟩
      have b0:=aa (a0.out.trans (bf.mono a0.out.size))
      have d3:=aa (bl (bl f7.out (ag _ (w1.alloc (.cells #[ι (F:Int)] 3))).drew) bf)
      have e0:=aa ((db.out.below (ag _ (w1.alloc (.cells #[ι (F:Int)] 3))).drew).below bf)
      rw[ex.out]
      clear bf
      go_simp
      refine HK.out _ _ (λ_ hS=>⟨bc b0.out,a3.out _ (aj b0.out)⟩) ?_
      clear HK K
      try simp only[Act.put,sx]
      refine af 6 (.bool true) ?_
      try simp only[Act.put,sx]
      refine ce ?_
      go_wp2_with fail
      refine cr (λW=>(W.cell? (δ w.heap.size 0)=some (ι I)/\W.cell? (δ w.heap.size 1)=some (.slice Q C.ab.length U)/\W.cell? (δ w.heap.size 2)=some vt)/\W.cell? (δ b (o+k))=some (ι (F:Int))) [] ?_
      have ci:=aa b0.out.drew
      have fg:Hid (((w3).drew.cell? (δ w.heap.size 0)=some (ι I)/\(w3).drew.cell? (δ w.heap.size 1)=some (.slice Q C.ab.length U)/\(w3).drew.cell? (δ w.heap.size 2)=some vt)/\(w3).drew.cell? (δ b (o+k))=some (ι (F:Int))):=aa ⟨bc ci.out,a3.out _ (aj ci.out)⟩
      refine a7 0 (.agg #[ι I,.slice Q C.ab.length U,vt]) (fg.out) ?_
      refine af 1 vh ?_
      refine af 2 (.slice (some (δ b o)) l.length ev) ?_
      refine af 3 (ι (k:Int)) ?_
      refine af 4 (φ b (o+k)) ?_
      refine a7 5 (ι (F:Int)) (fg.out) ?_
      try simp only[Act.put,sx]
      refine a8 6 (λK HK=>?_)
      go_simp
      refine(aka I _ vt vh C H F w _ (aj ci.out) HC.out HH.out (by omega) gv.out f3).mono ?_
      rintro e w4⟨fu,v4,rfl,gg⟩
      have e5:=aa (ci.out.trans (fu.mono ci.out.size))
      have gx:=aa (bl (bl d3.out (ag _ w3).drew) fu)
      have f5:Hid (gp (λb=>some b≠u7.ownBlock) w4 v4 (stM C.ab H (F:Int))):=aa (by
       have hq:stM C.ab H (F:Int)=stD C.ab H (F:Int):=by unfold stM;rw[ao ex.out]
       rw[hq]
       refine gg.mono λb _ hb he=>?_
       have h1:=d3.out.lt b he.symm
       have h2:w3.heap.size=w3.drew.heap.size:=rfl
       omega)
      clear fu gg
      go_simp
      refine HK.out _ _ (λ_ hS=>⟨bc e5.out,a3.out _ (aj e5.out)⟩) ?_
      clear HK K
      try simp only[Act.put,sx]
      refine af 7 v4 ?_
      try simp only[Act.put,sx]
      refine ce ?_
      generalize stM C.ab H (F:Int)=M at *
      obtain⟨mA,bt,rfl,hf⟩:=br.slice f5.out
      have ds:=f5
      have c7:=e5
      have dy:=gx
      have d4:Hid (R=(l.drop (k+1)).foldl (yj C.ab H) (M.foldl (rIn C.ab) am)):=aa (by rw[co.out,cv.out])
      have hl:M.length<=32:=f6.out
      clear d3 b0 e0 db ax a0 ci b6 b7 fg av HB
      go_wp2_with fail
      go_loopw [7,11] (λv i wr=>∃(m:Nat)(d:List Int),m<=M.length/\d.length<=k*32+m/\i=ι (m:Int)/\Hid (R=(l.drop (k+1)).foldl (yj C.ab H) ((M.drop m).foldl (rIn C.ab) d))/\Hid (κ (w.alloc (bu I (.slice Q C.ab.length U) vt)) wr)/\Hid (wr.ownsRow (w.heap.size+1) 3 1 v d.length (bg d))/\Hid (gp (λb=>some b≠v.ownBlock) wr (.slice mA M.length bt) M)) (λ_ i _=>M.length-(intOf i).toNat)
      case atStart=>exact ⟨0,am,ar _,c0,rfl,d4,c7,dy,ds⟩
      case round =>
       clear d4 c7 dy ds co cv c0 cl a2
       obtain⟨m,d,hm,c0,rfl,HR,HB,av,HM⟩:=hrel
       obtain⟨E,rfl⟩:∃E:ω,E=wr:=⟨_,rfl⟩
       obtain⟨x0,x1,x2⟩:=bc HB.out
       by_cases eg:m<M.length
       . obtain⟨oA,hn,rfl⟩:=sd av.out
         obtain⟨O,V,fv,f0,ek,f1⟩:=(let ⟨_,_,h1,_,h3⟩:=HM.out;by injection h1 with e1 e2 e3;subst e1;exact h3 m _ (ae eg):∃b o,mA=some (δ b o)/\b<E.heap.size/\(d7 E b (o+m*1) M[m])/\_)
         subst fv
         have a9:Hid (E.drew.cell? (δ O (V+m))=some (ι M[m])):=aa (by have:=ek;unfold d7 at this;rw[bq]at this;exact this)
         have b5:=aa (HR.out.trans (congrArg (λz=>(l.drop (k+1)).foldl (yj C.ab H) z) (nf _ M m eg d)))
         have b3:Hid (O<E.drew.heap.size):=aa f0
         generalize M[m]=x at *
         clear ek f1 HR
         cases bk:c6 C.ab x with
         | false =>
          have a1:=aa bk
          clear bk
          go_wp2_with fail
          clear x0 x1 x2
          refine cr (λW=>(W.cell? (δ w.heap.size 0)=some (ι I)/\W.cell? (δ w.heap.size 1)=some (.slice Q C.ab.length U)/\W.cell? (δ w.heap.size 2)=some vt)/\W.cell? (δ O (V+m))=some (ι x)) [] ?_
          have al:=aa HB.out.drew
          have a5:Hid ((E.drew.cell? (δ w.heap.size 0)=some (ι I)/\E.drew.cell? (δ w.heap.size 1)=some (.slice Q C.ab.length U)/\E.drew.cell? (δ w.heap.size 2)=some vt)/\E.drew.cell? (δ O (V+m))=some (ι x)):=aa ⟨bc al.out,a9.out⟩
          refine a7 0 (.agg #[ι I,.slice Q C.ab.length U,vt]) (a5.out) ?_
          refine af 1 (.slice (some (δ O V)) M.length bt) ?_
          refine af 2 (ι (m:Int)) ?_
          refine af 3 (φ O (V+m)) ?_
          refine a7 4 (ι x) (a5.out) ?_
          try simp only[Act.put,sx]
          refine a8 5 (λK HK=>?_)
          go_simp
          refine(qt I x _ vt C _ (HC.out.below (aj al.out)) (by omega)).mono ?_
          rintro e w6⟨rfl,Z⟩
          have ak:=aa (al.out.trans (Z.mono al.out.size))
          have a4:=aa (bl (bl av.out (ag _ E).drew) Z)
          have bb:=aa ((HM.out.below (ag _ E).drew).below Z)
          have ba:=aa ((Z.cell (p:=(δ O (V+m))) b3.out).trans a9.out)
          have d5:Hid (E.drew.heap.size<=w6.heap.size):=aa Z.size
          rw[a1.out]
          clear Z
          go_simp
          refine HK.out _ _ (λ_ hS=>⟨bc ak.out,ba.out⟩) ?_
          clear HK K
          try simp only[Act.put,sx]
          refine af 6 (.bool true) ?_
          refine af 7 (.bool true) ?_
          try simp only[Act.put,sx]
          refine ce ?_
          go_wp2_with fail
          go_loopw [12,13] (λmv jv wr=>∃(j:Nat),j<=d.length/\jv=ι (j:Int)/\mv=.bool (true)/\Hid (κ w6 wr)) (λ_ jv _=>d.length-(intOf jv).toNat)
          case atStart=>exact ⟨0,ar _,rfl,rfl,aa (ag _ _)⟩
          case round =>
           obtain⟨j,hj,rfl,rfl,J⟩:=hrel
           obtain⟨Y,rfl⟩:∃Y:ω,Y=wr:=⟨_,rfl⟩
           by_cases cc:j<d.length
           . go_wp2_with fail
             go_quiet (fail)
             go_wp2
             go_roundw
             case rel=>exact ⟨j+1,by omega,by go_num,rfl,aa (bx J.out _)⟩
             case measure=>simp[intOf];omega
           . obtain rfl:j=d.length:=by omega
             go_wp2
             go_roundw
             case rel=>exact ⟨m+1,d,by omega,by omega,by go_num,aa (by rw[b5.out,aks a1.out]),aa (ak.out.trans (J.out.mono ak.out.size)),aa (bl a4.out J.out),aa (bb.out.below J.out)⟩
             case measure=>simp[intOf];omega
         | true =>
          have a1:=aa bk
          clear bk
          go_wp2_with fail
          clear x0 x1 x2
          refine cr (λW=>(W.cell? (δ w.heap.size 0)=some (ι I)/\W.cell? (δ w.heap.size 1)=some (.slice Q C.ab.length U)/\W.cell? (δ w.heap.size 2)=some vt)/\W.cell? (δ O (V+m))=some (ι x)) [] ?_
          have al:=aa HB.out.drew
          have a5:Hid ((E.drew.cell? (δ w.heap.size 0)=some (ι I)/\E.drew.cell? (δ w.heap.size 1)=some (.slice Q C.ab.length U)/\E.drew.cell? (δ w.heap.size 2)=some vt)/\E.drew.cell? (δ O (V+m))=some (ι x)):=aa ⟨bc al.out,a9.out⟩
          refine a7 0 (.agg #[ι I,.slice Q C.ab.length U,vt]) (a5.out) ?_
          refine af 1 (.slice (some (δ O V)) M.length bt) ?_
          refine af 2 (ι (m:Int)) ?_
          refine af 3 (φ O (V+m)) ?_
          refine a7 4 (ι x) (a5.out) ?_
          try simp only[Act.put,sx]
          refine a8 5 (λK HK=>?_)
          go_simp
          refine(qt I x _ vt C _ (HC.out.below (aj al.out)) (by omega)).mono ?_
          rintro e w6⟨rfl,Z⟩
          have ak:=aa (al.out.trans (Z.mono al.out.size))
          have a4:=aa (bl (bl av.out (ag _ E).drew) Z)
          have bb:=aa ((HM.out.below (ag _ E).drew).below Z)
          have ba:=aa ((Z.cell (p:=(δ O (V+m))) b3.out).trans a9.out)
          have d5:Hid (E.drew.heap.size<=w6.heap.size):=aa Z.size
          rw[a1.out]
          clear Z
          go_simp
          refine HK.out _ _ (λ_ hS=>⟨bc ak.out,ba.out⟩) ?_
          clear HK K
          try simp only[Act.put,sx]
          refine af 6 (.bool false) ?_
          refine af 7 (.bool false) ?_
          try simp only[Act.put,sx]
          refine ce ?_
          go_wp2_with fail
          go_loopw [12,13] (λmv jv wr=>∃(j:Nat),j<=d.length/\jv=ι (j:Int)/\mv=.bool ((d.take j).contains x)/\Hid (κ w6 wr)) (λ_ jv _=>d.length-(intOf jv).toNat)
          case atStart=>exact ⟨0,ar _,rfl,rfl,aa (ag _ _)⟩
          case round =>
           obtain⟨j,hj,rfl,rfl,J⟩:=hrel
           obtain⟨Y,rfl⟩:∃Y:ω,Y=wr:=⟨_,rfl⟩
           have d1:Y.cell? (δ O (V+m))=some (ι x):=(J.out.cell (p:=(δ O (V+m))) (c8 b3.out d5.out)).trans ba.out
           by_cases cc:j<d.length
           . have d6:=aa (afy d x cc)
             obtain⟨ob,oo,rfl,f2,el⟩:=(let ⟨_,_,h1,_,h3⟩:=dc a4.out;by injection h1 with e1 e2 e3;subst e1;exact h3 j _ (ae cc):∃b o,oA=some (δ b o)/\b<w6.heap.size/\(d7 w6 b (o+j*1) d[j]))
             have d2:Y.cell? (δ ob (oo+j))=some (ι d[j]):=by have:=d7.keeps w6 Y ob _ _ J.out f2 el;unfold d7 at this;rwa [bq]at this
             generalize d[j]=y at *
             clear el
             cases ad:(d.take j).contains x with
             | true =>
              have b8:Hid ((d.take (j+1)).contains x=true):=aa (by rw[d6.out,ad];rfl)
              clear ad
              go_wp2_with fail
              go_quiet (fail)
              go_wp2
              go_roundw
              case rel=>exact ⟨j+1,by omega,by go_num,by rw[b8.out],aa (bx J.out _)⟩
              case measure=>simp[intOf];omega
             | false =>
              have b8:Hid ((d.take (j+1)).contains x=(y==x)):=aa (by rw[d6.out,ad];rfl)
              clear ad
              go_wp2_with fail
              go_quiet (fail)
              go_wp2
              go_roundw
              case rel=>exact ⟨j+1,by omega,by go_num,by rw[b8.out],aa (bx J.out _)⟩
              case measure=>simp[intOf];omega
           . obtain rfl:j=d.length:=by omega
             have bs:d.take d.length=d:=ed
             cases ad:d.contains x with
             | true =>
              rw[bs,ad]
              have b4:=aa ad
              clear ad bs
              go_wp2
              go_roundw
              case rel=>exact ⟨m+1,d,by omega,by omega,by go_num,aa (by rw[b5.out,yk a1.out,aex b4.out]),aa (ak.out.trans (J.out.mono ak.out.size)),aa (bl a4.out J.out),aa (bb.out.below J.out)⟩
              case measure=>simp[intOf];omega
             | false =>
              rw[bs,ad]
              have b4:=aa ad
              have d0:=aa (bl a4.out J.out)
              have b2:=aa (ak.out.trans (J.out.mono ak.out.size))
              have e8:=aa (bb.out.below J.out)
              have hd:w.heap.size+1<=Y.heap.size:=by have:=b2.out.size;simpa using this
              clear ad bs
              go_wp2_with (at_builtin;refine wpList_append_own_at _ rfl _ _ 36 rfl (w.heap.size+1) 3 i0 (ι 0) 1 8 underlying36 HI.out f8.out f9.out gb.out rfl (by decide) _ _ _ rfl (d0.out.alloc _) (δ Y.heap.size 0) 1 1 [ι x] rfl rfl ?c1 ?c2 ?c3 ?c4 ?c5 ?_)
              case c1=>exact g8 _ _ _ _ (by simp)
              case c2=>exact fl _
              case c3=>unfold maxLen;omega
              case c4=>omega
              case c5=>simp;omega
              intro v' w2 er cb _ eb
              have HG:=aa (ck (b2.out.alloc b2.out.size _) cb (by simp;omega) (λg hg=>by have:=(d0.out.lt g hg).1;simpa using this))
              have e9:=aa er
              have e7:Hid (gp (λb=>some b≠v'.ownBlock) w2 (.slice (some (δ O V)) M.length bt) M):=aa (((((e8.out.mono λb hb hc=>(⟨hb,hc⟩:b<Y.heap.size/\some b≠_)).below (ap Y _)).grown cb λb _ hc=>hc.2).mono λb _ hc=>by
               rcases eb with h | h
               . rw[h];exact hc.2
               . rw[h];intro he;injection he with he;have:=hc.1;have h3:(Y.alloc (.cells #[ι x] 3)).heap.size=Y.heap.size+1:=by simp
                 omega))
              clear er cb eb
              go_wp2
              go_roundw
              case rel=>exact ⟨m+1,d ++ [x],by omega,by simp;omega,by go_num,aa (by rw[b5.out,yk a1.out,aey b4.out]),HG,aa (by rw[dp];simpa using e9.out),e7⟩
              case measure=>simp[intOf];omega
       . obtain rfl:m=M.length:=by omega
         have b9:=HR.out
         rw[bz,dv]at b9
         have fa:=aa b9
         clear b9
         go_wp2
         go_roundw
         case rel=>exact ⟨k+1,d,by omega,by omega,by go_num,fa,HB,av⟩
         case measure=>simp[intOf];omega
  . obtain rfl:k=l.length:=(by omega);have hR:=HR.out;rw[bz,dv]at hR;have g0:=aa hR;clear hR;go_wp2;go_ret;exact⟨aj HB.out,_,rfl,by rw[g0.out];exact fp av.out (by omega)⟩
end Go.Proofs.YtpekhdfmmkmjaaaGreatDoor
