/- Texts of the proof, put together. -/
import Derived.Test.YtpekhdfmmkmjaaaGreatDoorGShelf
import Derived.Test.YtpekhdfmmkmjaaaGreatDoorG2
namespace Go.Proofs.YtpekhdfmmkmjaaaGreatDoor
set_option maxHeartbeats 8000000
set_option maxRecDepth 100000
set_option linter.unusedVariables false
open Go.Proofs.Tryz
open Go.ChangeShapes Go.WideShapes Go.ChangeAt Go.RowKit
theorem aio(c:UInt8)(w:ω) :
 Calls prog 180 #[.int .u8 (c.toNat:Int)] w λe d=>e=.returned (.bool (nz c))/\w=d:=by
 go_enter func180,ntmps180;go_wp2;go_ret;refine⟨az ?_,rfl⟩;unfold nz;rw[dh];simp;omega
theorem vd(c:UInt8)(w:ω) :
 Calls prog 229 #[.int .u8 (c.toNat:Int)] w λe d=>e=.returned (.bool (i7 c))/\w=d:=by
 go_enter func229,ntmps229;go_wp2;all_goals
  go_ret
  refine⟨az ?_,rfl⟩
  unfold i7;rw[dh];simp;omega
theorem wj(c:UInt8)(w:ω) :
 Calls prog 231 #[.int .u8 (c.toNat:Int)] w λe d=>e=.returned (.bool (js c))/\w=d:=by
 go_enter func231,ntmps231;go_wp2;all_goals
  go_ret
  refine⟨az ?_,rfl⟩
  unfold js;rw[dh];simp;omega
theorem aiv(s:ByteArray)(y:Nat)(w:ω)(O:y<=s.size)(V:s.size<=1000000) :
 Calls prog 179 #[.string s,ι y,.func (.func 180) #[] #[]] w λe F=>e=.returned (ι (je nz s.data.toList y))/\w=F:=by
 go_enter func179,ntmps179;go_wp2;go_loop [1] (λi=>∃k:Nat,k<=s.size/\i=ι k/\Hid (je nz s.data.toList k=je nz s.data.toList y)) (λi=>s.size-(intOf i).toNat)
 case atStart=>exact ⟨y,O,rfl,aa rfl⟩
 case round =>
  obtain⟨k,U,rfl,E⟩:=hrel;by_cases J:k<s.size
  . have I:k<s.data.toList.length:=(by rw[<-Lib.size_eq];exact J);have z:=mg s k J;cases d:nz (s.data.toList.getD k 0) with
    | true =>
     have H:=aa (o7 nz _ k I d);have Q:nz s[k]=true:=(by rw[z];exact d);clear d z;go_wp2_with (go_at_call 180;refine (aio _ _).mono ?_;rintro e F⟨rfl,rfl⟩);go_round
     case rel=>exact ⟨k+1,by omega,by go_num,aa (H.out.symm.trans E.out)⟩
     case measure=>simp[intOf];omega
    | false =>have H:=aa (aa5 nz _ k I d);have Q:nz s[k]=false:=(by rw[z];exact d);clear d z;go_wp2_with (go_at_call 180;refine (aio _ _).mono ?_;rintro e F⟨rfl,rfl⟩);go_ret;exact⟨cw (by rw[<-E.out,H.out]),rfl⟩
  . have H:=aa (ye nz s.data.toList k (by rw[<-Lib.size_eq];omega));go_wp2;go_ret;exact⟨cw (by rw[<-E.out,H.out]),rfl⟩
theorem aiw(s:ByteArray)(y:Nat)(w:ω)(O:y<=s.size)(V:s.size<=1000000) :
 Calls prog 179 #[.string s,ι y,.func (.func 229) #[] #[]] w λe F=>e=.returned (ι (je i7 s.data.toList y))/\w=F:=by
 go_enter func179,ntmps179;go_wp2;go_loop [1] (λi=>∃k:Nat,k<=s.size/\i=ι k/\Hid (je i7 s.data.toList k=je i7 s.data.toList y)) (λi=>s.size-(intOf i).toNat)
 case atStart=>exact ⟨y,O,rfl,aa rfl⟩
 case round =>
  obtain⟨k,U,rfl,E⟩:=hrel;by_cases J:k<s.size
  . have I:k<s.data.toList.length:=(by rw[<-Lib.size_eq];exact J);have z:=mg s k J;cases d:i7 (s.data.toList.getD k 0) with
    | true =>
     have H:=aa (o7 i7 _ k I d);have Q:i7 s[k]=true:=(by rw[z];exact d);clear d z;go_wp2_with (go_at_call 229;refine (vd _ _).mono ?_;rintro e F⟨rfl,rfl⟩);go_round
     case rel=>exact ⟨k+1,by omega,by go_num,aa (H.out.symm.trans E.out)⟩
     case measure=>simp[intOf];omega
    | false =>have H:=aa (aa5 i7 _ k I d);have Q:i7 s[k]=false:=(by rw[z];exact d);clear d z;go_wp2_with (go_at_call 229;refine (vd _ _).mono ?_;rintro e F⟨rfl,rfl⟩);go_ret;exact⟨cw (by rw[<-E.out,H.out]),rfl⟩
  . have H:=aa (ye i7 s.data.toList k (by rw[<-Lib.size_eq];omega));go_wp2;go_ret;exact⟨cw (by rw[<-E.out,H.out]),rfl⟩
theorem agt(s:ByteArray)(y:Nat)(w:ω)(O:y<=s.size)(V:s.size<=1000000) :
 Calls prog 179 #[.string s,ι y,.func (.func 231) #[] #[]] w λe F=>e=.returned (ι (je js s.data.toList y))/\w=F:=by
 go_enter func179,ntmps179;go_wp2;go_loop [1] (λi=>∃k:Nat,k<=s.size/\i=ι k/\Hid (je js s.data.toList k=je js s.data.toList y)) (λi=>s.size-(intOf i).toNat)
 case atStart=>exact ⟨y,O,rfl,aa rfl⟩
 case round =>
  obtain⟨k,U,rfl,E⟩:=hrel;by_cases J:k<s.size
  . have I:k<s.data.toList.length:=(by rw[<-Lib.size_eq];exact J);have z:=mg s k J;cases d:js (s.data.toList.getD k 0) with
    | true =>
     have H:=aa (o7 js _ k I d);have Q:js s[k]=true:=(by rw[z];exact d);clear d z;go_wp2_with (go_at_call 231;refine (wj _ _).mono ?_;rintro e F⟨rfl,rfl⟩);go_round
     case rel=>exact ⟨k+1,by omega,by go_num,aa (H.out.symm.trans E.out)⟩
     case measure=>simp[intOf];omega
    | false =>have H:=aa (aa5 js _ k I d);have Q:js s[k]=false:=(by rw[z];exact d);clear d z;go_wp2_with (go_at_call 231;refine (wj _ _).mono ?_;rintro e F⟨rfl,rfl⟩);go_ret;exact⟨cw (by rw[<-E.out,H.out]),rfl⟩
  . have H:=aa (ye js s.data.toList k (by rw[<-Lib.size_eq];omega));go_wp2;go_ret;exact⟨cw (by rw[<-E.out,H.out]),rfl⟩
theorem ac9(s:ByteArray)(a b:Nat)(w:ω)(z:ju w)(J:a<=b)(O:b<=s.size)(W:s.size<=1000000) :
 Calls prog 267 #[.string s,ι a,ι b] w λe I=>e=.returned (jr (jm s.data.toList a b))/\κ w I:=by
 go_enter func267,ntmps267;go_wp2;go_loopw [9] (λi wr=>∃k n:Nat,3<=k/\k<=19/\i=ι k/\wr=((w.alloc (.cells #[ι 0,ι 0,ι 0] 206)).drewN n)/\Hid (nc (uy s.data.toList a b) (19-k) k=na (uy s.data.toList a b))) (λi _=>19-(intOf i).toNat)
 case atStart=>exact ⟨3,0,by omega,by omega,rfl,rfl,aa rfl⟩
 case round =>
  obtain⟨k,n,V,U,rfl,rfl,d⟩:=hrel;by_cases E:k<=18
  . have Q:(w.alloc (.cells #[ι 0,ι 0,ι 0] 206)).cell? (δ 1 k)=some (.string (bytes (texts.getD k []))):=(by rw[World.cell?_alloc_lt _ _ (δ 1 k) (by have:=z.1;simp only;omega)];exact z.text k (by omega));by_cases y:texts.getD k []=uy s.data.toList a b
    . have H:=aa ((d.out.symm.trans (alg _ k E y)));have F:((bytes (texts[k]?.getD [])).toList==(s.extract a b).toList)=true:=(by rw[akf];exact em (by simpa [List.getD] using y));clear y d;go_wp2;go_quiet (fail);go_wp2;refine bodyPost_ret (v:=jr (jm s.data.toList a b)) ?_ rfl ⟨rfl,?_⟩
      . unfold jm;rw[H.out];simp[results,Tryz.results267,go_sem,jr]
      . (repeat (first | exact ag _ _ | refine bx ?_ _ | refine Below.setCell ?_ (by simp) _ | refine Below.alloc ?_ (by simp) _))
    . have H:=aa ((alf _ k E y).symm.trans d.out);have F:((bytes (texts[k]?.getD [])).toList==(s.extract a b).toList)=false:=(by rw[akf];exact df (by simpa [List.getD] using y));clear y d;go_wp2;go_quiet (fail);go_wp2;go_roundw
      case rel=>exact ⟨k+1,_,by omega,by omega,by go_num,rfl,H⟩
      case measure=>simp[intOf];omega
  . obtain rfl:k=19:=(by omega);have H:=aa d.out.symm;clear d;go_wp2;refine bodyPost_ret (v:=jr (jm s.data.toList a b)) ?_ rfl ⟨rfl,?_⟩
    . unfold jm;rw[H.out];simp[results,Tryz.results267,go_sem,jr,nc]
    . (repeat (first | exact ag _ _ | refine bx ?_ _ | refine Below.setCell ?_ (by simp) _ | refine Below.alloc ?_ (by simp) _))
theorem arv(p:Value)(w:ω):(binOp .neq 30 (.iface 303 p) .nilIface).run prog w=.ok (.bool true) w:=by kernel_rfl
theorem a3p(s:ByteArray)(a b:Nat)(w:ω)(y:b<=s.size)(J:s.size<=1000000)(E:uy s.data.toList a b≠ [])(z:∀c∈uy s.data.toList a b,i7 c=true)(F:val (uy s.data.toList a b)<=9223372036854775807) :
 Calls prog 266 #[.string (s.extract a b),ι 10,ι 64] w λe d=>e=.returned (.tuple #[ι (val (uy s.data.toList a b)),.nilIface])/\κ w d:=by
 have h:Lib.parseIntB 64 (s.extract a b).data.toList=.ok (val (uy s.data.toList a b):Int):=by rw[Lib.extract_data];exact (abv _ E z).trans (ao F)
 refine(Tryz.strconv_ParseInt_10_at64_ok (s.extract a b) (by rw[wm s a b y];omega) _ h w).mono ?_;rintro e d⟨rfl,I⟩;refine⟨rfl,?_⟩;rcases I with rfl | ⟨t,rfl⟩
 . exact ag _ _
 . exact Lib.bytesWorld_below _ _ _
theorem az0(s:ByteArray)(a b:Nat)(w:ω)(z:ju w)(d:b<=s.size)(Q:s.size<=1000000)(F:uy s.data.toList a b≠ [])(E:∀c∈uy s.data.toList a b,i7 c=true)(J:¬val (uy s.data.toList a b)<=9223372036854775807) :
 Calls prog 266 #[.string (s.extract a b),ι 10,ι 64] w λe y=>∃n p,e=.returned (.tuple #[ι n,.iface 303 p])/\κ w y:=by
 have h:Lib.parseIntB 64 (s.extract a b).data.toList=.range:=by rw[Lib.extract_data];exact (abv _ F E).trans (ah J)
 obtain⟨O,p,I⟩:=z.2.2.2.1;refine(Tryz.strconv_ParseInt_10_at64_range_var (s.extract a b) (by rw[wm s a b d];omega) h O p w I).mono ?_;rintro e y⟨N,rfl,_,_,d⟩;exact⟨_,_,rfl,d⟩
theorem ao3(s:ByteArray)(k:Nat)(w:ω)(hL:ju w)(hk:k<s.size)(y:s.size<=1000000)(I:i7 (s.data.toList.getD k 0)=true) :
 Calls prog 230 #[.string s,ι k] w λe J=>e=.returned (jr (i6 s.data.toList k))/\κ w J:=by
 have hl:k<s.data.toList.length:=by rw[<-Lib.size_eq];exact hk
 have V:Hid (i6 s.data.toList k=if val (uy s.data.toList k (je i7 s.data.toList k))<=9223372036854775807 then some ((1,(val (uy s.data.toList k (je i7 s.data.toList k)):Int),(k:Int)),je i7 s.data.toList k) else none):=by refine aa ?_;unfold i6;rw[ao I]
 have Z:je i7 s.data.toList k<=s.size:=by have:=aa6 i7 s.data.toList k (by omega);rw[<-Lib.size_eq]at this;exact this
 have ak:=zm i7 s.data.toList k;have Y:=ba8 s.data.toList i7 k hl I;have W:=aa (amq s.data.toList k);clear I;have n1:=l3;have n2:=arv;generalize Q:je i7 s.data.toList k=E at *;have O:=aa Q;clear Q;by_cases z:val (uy s.data.toList k E)<=9223372036854775807
 . go_enter func230,ntmps230;go_wp2_with fail;refine(aiw s k _ (by omega) y).mono ?_;rintro e J⟨rfl,rfl⟩;rw[O.out];go_wp2_with fail;refine(a3p s k E _ Z y Y W.out z).mono ?_;rintro e w1⟨rfl,d⟩;obtain⟨hc,hf⟩:=anu d;have F:=(cg.new w 206 #[ι 0,ι 0,ι 0]).below d (by simp);go_wp2;refine bodyPost_ret (v:=jr (i6 s.data.toList k)) ?_ rfl ⟨rfl,?_⟩
   . rw[V.out,ao z];exact (ms Tryz.results230 _ _ w.heap.size _ _ _ (by rfl) (F.l7 _ _ _)).trans (by rfl)
   . exact((((ag _ _).alloc (ai _) _).trans (d.mono (by simp))).setCell (by simp) _ |>.setCell (by simp) _).setCell (by simp) _
 . have U:=hL.after (((ag w.heap.size w).alloc (ai _) (.cells #[ι 0,ι 0,ι 0] 206)));have ad:=aa U;clear U;go_enter func230,ntmps230;go_wp2_with fail;refine(aiw s k _ (by omega) y).mono ?_;rintro e J⟨rfl,rfl⟩;rw[O.out];go_wp2_with fail;refine(az0 s k E _ ad Z y Y W.out z).mono ?_;rintro e w1⟨nn,pp,rfl,d⟩;obtain⟨hc,hf⟩:=anu d;have F:=(cg.new w 206 #[ι 0,ι 0,ι 0]).below d (by simp);go_wp2;refine bodyPost_ret (v:=jr (i6 s.data.toList k)) ?_ rfl ⟨rfl,?_⟩
   . rw[V.out,ah z];exact (ms Tryz.results230 _ _ w.heap.size _ _ _ (by rfl) (F.l7 _ _ _)).trans (by rfl)
   . exact((((ag _ _).alloc (ai _) _).trans (d.mono (by simp))).setCell (by simp) _ |>.setCell (by simp) _).setCell (by simp) _
theorem at5(s:ByteArray)(k:Nat)(w:ω)(O:k<s.size)(Q:s.size<=1000000)(F:i7 (s.data.toList.getD k 0)=false)(d:js (s.data.toList.getD k 0)=true)(y:je js s.data.toList k=k+1) :
 Calls prog 232 #[.string s,ι k] w λe I=>e=.returned (jr (i6 s.data.toList k))/\κ w I:=by
 have z:Hid (i6 s.data.toList k=some ((2,((s.data.toList.getD k 0).toNat:Int)-97,(k:Int)),k+1)):=by refine aa ?_;unfold i6;rw[ah (by rw[F];exact dr),ao d,ao y]
 have E:=mg s k O;rw[<-E]at z d;simp only[js,bj,bi]at d;have U:97<=(s[k].toNat:Int):=by omega
 have V:(s[k].toNat:Int)<=122:=by omega
 have J:=aa y;clear y F E d;go_enter func232,ntmps232;go_wp2_with fail;refine(agt s k _ (by omega) Q).mono ?_;rintro e I⟨rfl,rfl⟩;rw[J.out];go_wp2;refine bodyPost_ret (v:=jr (i6 s.data.toList k)) ?_ rfl ⟨rfl,?_⟩
 . rw[z.out];exact (ms Tryz.results232 _ _ w.heap.size _ _ _ (by rfl) (cg.new w 206 _)).trans (by rfl)
 . exact(ag _ _).alloc (ai _) _
theorem aqi(s:ByteArray)(k:Nat)(w:ω)(hL:ju w)(hk:k<s.size)(U:s.size<=1000000)(O:i7 (s.data.toList.getD k 0)=false)(Q:js (s.data.toList.getD k 0)=true)(F:¬je js s.data.toList k=k+1) :
 Calls prog 232 #[.string s,ι k] w λe W=>e=.returned (jr (i6 s.data.toList k))/\κ w W:=by
 have hT:Hid (i6 s.data.toList k=jm s.data.toList k (je js s.data.toList k)):=by refine aa ?_;unfold i6;rw[ah (by rw[O];exact dr),ao Q,ah F]
 have hu:je js s.data.toList k<=s.size:=by have:=aa6 js s.data.toList k (by rw[<-Lib.size_eq];omega);rw[<-Lib.size_eq]at this;exact this
 have ak:=zm js s.data.toList k;have ad:=aa (hL.after (((ag w.heap.size w).alloc (ai _) (.cells #[ι 0,ι 0,ι 0] 206))));generalize J:je js s.data.toList k=E at *;have Z:=aa J;have h2:((E:Int)==(k:Int)+1)=false:=by simp;omega
 clear F O Q J;obtain⟨a,b,c,d,f,V⟩:=adm (jm s.data.toList k E);have z:=aa V;clear V;go_enter func232,ntmps232;go_wp2_with fail;refine(agt s k _ (by omega) U).mono ?_;rintro e W⟨rfl,rfl⟩;rw[Z.out];go_wp2_with fail;refine(ac9 s k E _ ad ak hu U).mono ?_;rintro e w1⟨rfl,y⟩;rw[z.out];obtain⟨hc,hf⟩:=anu y;have I:=(cg.new w 206 #[ι 0,ι 0,ι 0]).below y (by simp);have Y:=aa I;clear I;go_wp2;refine bodyPost_ret (v:=jr (i6 s.data.toList k)) ?_ rfl ⟨rfl,?_⟩
 . rw[hT.out,z.out];exact (ms Tryz.results232 _ _ w.heap.size _ _ _ (by rfl) (Y.l7 _ _ _)).trans (by rfl)
 . exact((((ag _ _).alloc (ai _) _).trans (y.mono (by simp))).setCell (by simp) _ |>.setCell (by simp) _).setCell (by simp) _
theorem aie(s:ByteArray)(k j:Nat)(w:ω)(hL:ju w)(hk:k<s.size)(hs:s.size<=1000000)(hj:(k+2<=s.size/\j=2)\/(s.size=k+1/\j=1)) :
 Calls prog 233 #[.string s,ι k] w λe w'=>e=.returned (jr (jy s.data.toList k j))/\κ w w':=by
 go_enter func233,ntmps233;go_wp2;go_loopw [7] (λi wr=>∃m:Nat,k<=m/\m<=s.size/\i=ι (m:Int)/\Hid (jy s.data.toList k (m-k)=jy s.data.toList k j)/\κ w wr/\Hid (cg wr w.heap.size 206 #[ι 0,ι 0,ι 0])) (λi _=>(intOf i).toNat)
 case atStart=>exact ⟨k+j,by omega,by omega,by congr 1;omega,aa (by rw[nm]),(ag _ _).alloc (ai _) _,aa (cg.new w 206 _)⟩
 case round =>
  obtain⟨m,ad,Z,rfl,E,d,I⟩:=hrel;obtain⟨U,rfl⟩:∃U:ω,U=wr:=⟨_,rfl⟩;have V:=aa (hL.after d);have W:=aa (show w.heap.size<U.heap.size from I.out.lt);by_cases Y:k<m
  . cases z:jm s.data.toList k m with
    | none =>
     have F:=aa ((aml _ k m Y z).symm.trans E.out);have O:=aa z;clear E z;go_wp2_with fail;refine(ac9 s k m _ V (by omega) Z hs).mono ?_;rintro e w1⟨rfl,y⟩;rw[O.out,jr];have J:=aa (I.out.below y W);have Q:=aa y.size;go_wp2;go_roundw
     case rel=>exact ⟨m-1,by omega,by omega,by go_num,F,(d.trans (y.mono d.size)).alloc (a6 d.size Q) _,aa (J.out.alloc _)⟩
     case measure=>simp[intOf];omega
    | some x =>
     have F:=aa (E.out.symm.trans (amk _ k m x Y z));have HX:=aa (asu z);have O:=aa z;clear E z;go_wp2_with fail;refine(ac9 s k m _ V (by omega) Z hs).mono ?_;rintro e w1⟨rfl,y⟩;rw[O.out,jr];have J:=aa (I.out.below y W);have Q:=aa y.size;obtain⟨⟨c0,c1,c2⟩,f0,f1,f2⟩:=(J.out.alloc (.cells #[ι x.1.1,ι x.1.2.1,ι x.1.2.2] 206)).ax;go_wp2;refine bodyPost_ret (v:=jr (jy s.data.toList k j)) ?_ rfl ⟨rfl,?_⟩
     . rw[F.out,jr,HX.out];exact(ms Tryz.results233 _ _ w.heap.size _ _ _ (by rfl) ((J.out.alloc _).l7 _ _ _)).trans (by rfl)
     . exact(((((d.trans (y.mono d.size)).alloc (a6 d.size Q) _).setCell (by simp) _).setCell (by simp) _).setCell (by simp) _)
  . obtain rfl:m=k:=(by omega);have H:=E.out.symm;rw[Nat.sub_self,jy]at H;have F:=aa H;clear H E;obtain⟨⟨c0,c1,c2⟩,f0,f1,f2⟩:=I.out.ax;go_wp2;refine bodyPost_ret (v:=jr (jy s.data.toList m j)) ?_ rfl ⟨rfl,?_⟩
    . rw[F.out];exact (ms Tryz.results233 _ _ w.heap.size _ _ _ (by rfl) (I.out.l7 _ _ _)).trans (by rfl)
    . exact((d.setCell (by simp) _).setCell (by simp) _).setCell (by simp) _
theorem aui(s:ByteArray)(k:Nat)(w:ω)(d:ju w)(z:k<s.size)(E:s.size<=1000000)(I:i7 (s.data.toList.getD k 0)=false)(J:js (s.data.toList.getD k 0)=false) :
 Calls prog 233 #[.string s,ι k] w λe O=>e=.returned (jr (i6 s.data.toList k))/\κ w O:=by
 have y:i6 s.data.toList k=if k+2<=s.data.toList.length/\na (uy s.data.toList k (k+2))≠none then jm s.data.toList k (k+2) else jm s.data.toList k (k+1):=by unfold i6;rw[ah (by rw[I];exact dr),ah (by rw[J];exact dr)]
 have Q:=Lib.size_eq s;by_cases F:k+2<=s.size
 . rw[y,<-aoj s.data.toList k (by omega)];exact aie s k 2 w d z E (.inl ⟨F,rfl⟩)
 . rw[y,<-aok s.data.toList k (by omega)];exact aie s k 1 w d z E (.inr ⟨by omega,rfl⟩)
theorem amj(s:ByteArray)(k:Nat)(w:ω)(V:ju w)(F:k<s.size)(W:s.size<=1000000)(z:i7 (s.data.toList.getD k 0)=true) :
 Calls prog 181 #[.string s,ι k] w λe J=>e=.returned (jr (i6 s.data.toList k))/\κ w J:=by
 have U:=aa (V.after (((ag w.heap.size w).alloc (ai _) (.cells #[ι 0,ι 0,ι 0] 206))));have Z:i7 s[k]=true:=by rw[mg s k F];exact z
 have Q:=aa z;clear z;obtain⟨a,b,c,d,f,I⟩:=adm (i6 s.data.toList k);have E:=aa I;clear I;go_enter func181,ntmps181;go_wp2_with fail;refine(vd s[k] _).mono ?_;rintro e J⟨rfl,rfl⟩;go_wp2_with fail;refine(ao3 s k _ U F W Q).mono ?_;rintro e w1⟨rfl,y⟩;rw[E.out];obtain⟨Y,hf⟩:=anu y;have O:=aa ((cg.new w 206 #[ι 0,ι 0,ι 0]).below y (by simp));go_wp2;refine bodyPost_ret (v:=jr (i6 s.data.toList k)) ?_ rfl ⟨rfl,?_⟩
 . rw[E.out];exact (ms Tryz.results181 _ _ w.heap.size _ _ _ (by rfl) (O.l7 _ _ _)).trans (by rfl)
 . exact((((ag _ _).alloc (ai _) _).trans (y.mono (by simp))).setCell (by simp) _ |>.setCell (by simp) _).setCell (by simp) _
theorem at6(s:ByteArray)(k:Nat)(w:ω)(I:ju w)(z:k<s.size)(F:s.size<=1000000)(y:i7 (s.data.toList.getD k 0)=false)(E:js (s.data.toList.getD k 0)=true) :
 Calls prog 232 #[.string s,ι k] w λe J=>e=.returned (jr (i6 s.data.toList k))/\κ w J:=by
 by_cases d:je js s.data.toList k=k+1
 . exact at5 s k w z F y E d
 . exact aqi s k w I z F y E d
theorem aj7(s:ByteArray)(k:Nat)(w:ω)(Y:ju w)(E:k<s.size)(Z:s.size<=1000000)(z:i7 (s.data.toList.getD k 0)=false)(F:js (s.data.toList.getD k 0)=true) :
 Calls prog 181 #[.string s,ι k] w λe I=>e=.returned (jr (i6 s.data.toList k))/\κ w I:=by
 have W:=aa (Y.after (((ag w.heap.size w).alloc (ai _) (.cells #[ι 0,ι 0,ι 0] 206))));have ad:i7 s[k]=false:=by rw[mg s k E];exact z
 have ak:js s[k]=true:=by rw[mg s k E];exact F
 have U:=aa z;have V:=aa F;clear z F;obtain⟨a,b,c,d,f,O⟩:=adm (i6 s.data.toList k);have J:=aa O;clear O;go_enter func181,ntmps181;go_wp2_with fail;refine(vd s[k] _).mono ?_;rintro e I⟨rfl,rfl⟩;go_wp2_with fail;refine(wj s[k] _).mono ?_;rintro e I⟨rfl,rfl⟩;go_wp2_with fail;refine(at6 s k _ W E Z U V).mono ?_;rintro e w1⟨rfl,y⟩;rw[J.out];obtain⟨hc,hf⟩:=anu y;have Q:=aa ((cg.new w 206 #[ι 0,ι 0,ι 0]).below y (by simp));go_wp2;refine bodyPost_ret (v:=jr (i6 s.data.toList k)) ?_ rfl ⟨rfl,?_⟩
 . rw[J.out];exact (ms Tryz.results181 _ _ w.heap.size _ _ _ (by rfl) (Q.l7 _ _ _)).trans (by rfl)
 . exact((((ag _ _).alloc (ai _) _).trans (y.mono (by simp))).setCell (by simp) _ |>.setCell (by simp) _).setCell (by simp) _
theorem aoc(s:ByteArray)(k:Nat)(w:ω)(Y:ju w)(E:k<s.size)(Z:s.size<=1000000)(z:i7 (s.data.toList.getD k 0)=false)(F:js (s.data.toList.getD k 0)=false) :
 Calls prog 181 #[.string s,ι k] w λe I=>e=.returned (jr (i6 s.data.toList k))/\κ w I:=by
 have W:=aa (Y.after (((ag w.heap.size w).alloc (ai _) (.cells #[ι 0,ι 0,ι 0] 206))));have ad:i7 s[k]=false:=by rw[mg s k E];exact z
 have ak:js s[k]=false:=by rw[mg s k E];exact F
 have U:=aa z;have V:=aa F;clear z F;obtain⟨a,b,c,d,f,O⟩:=adm (i6 s.data.toList k);have J:=aa O;clear O;go_enter func181,ntmps181;go_wp2_with fail;refine(vd s[k] _).mono ?_;rintro e I⟨rfl,rfl⟩;go_wp2_with fail;refine(wj s[k] _).mono ?_;rintro e I⟨rfl,rfl⟩;go_wp2_with fail;refine(aui s k _ W E Z U V).mono ?_;rintro e w1⟨rfl,y⟩;rw[J.out];obtain⟨hc,hf⟩:=anu y;have Q:=aa ((cg.new w 206 #[ι 0,ι 0,ι 0]).below y (by simp));go_wp2;refine bodyPost_ret (v:=jr (i6 s.data.toList k)) ?_ rfl ⟨rfl,?_⟩
 . rw[J.out];exact (ms Tryz.results181 _ _ w.heap.size _ _ _ (by rfl) (Q.l7 _ _ _)).trans (by rfl)
 . exact((((ag _ _).alloc (ai _) _).trans (y.mono (by simp))).setCell (by simp) _ |>.setCell (by simp) _).setCell (by simp) _
theorem aib(s:ByteArray)(k:Nat)(w:ω)(d:ju w)(z:k<s.size)(E:s.size<=1000000) :
 Calls prog 181 #[.string s,ι k] w λe I=>e=.returned (jr (i6 s.data.toList k))/\κ w I:=by
 cases y:i7 (s.data.toList.getD k 0) with
 | true=>exact amj s k w d z E y
 | false =>
  cases F:js (s.data.toList.getD k 0) with
  | true=>exact aj7 s k w d z E y F
  | false=>exact aoc s k w d z E y F
theorem apo(s:ByteArray)(w:ω)(d:s.size<=1000000) :
 Calls prog 179 #[.string s,ι 0,.func (.func 180) #[] #[]] w λe y=>e=.returned (ι (je nz s.data.toList 0))/\w=y:=by
 have h:=aiv s 0 w (ar _) d;rwa [show ((0:Nat):Int)=0 from rfl]at h
theorem aob(s:ByteArray)(w:ω)(y:200<s.size)(z:s.size<=1000000) :
 Calls prog 125 #[.string s] w λe d=>e=.returned (.tuple #[.slice none 0 0,.iface 93 (ι 3)])/\w=d:=by
 go_enter func125,ntmps125;go_wp2;go_ret2;exact⟨rfl,rfl⟩
theorem aj6(s:ByteArray)(w:ω)(hL:ju w)(hs:s.size<=200) :
 Calls prog 125 #[.string s] w (a9y (pc s.data.toList 0 []) w):=by
 obtain⟨i0,HI,ax,a0,a1⟩:=ιp Tryz.ai3;have Z:=Lib.size_eq s;have Q:=aa Z;have a3:je nz s.data.toList 0<=s.size:=by rw[Z];exact aa6 nz s.data.toList 0 (by omega)
 have HR:=aa (am6 s.data.toList 0 []);have HO:=aa (λh=>aqk nz s.data.toList 0 h);clear Z;generalize hE:je nz s.data.toList 0=E at *;have HE:=aa hE;clear hE;generalize a2:pc s.data.toList 0 []=R at *;clear a2;go_enter func125,ntmps125;go_wp2_with fail;refine(apo s _ (by omega)).mono ?_;rintro e w'⟨rfl,rfl⟩;rw[HE.out];go_wp2_with fail;go_loopw [4,5] (λv i wr=>∃(k:Nat)(y:List Tk),k<=s.size/\y.length<=k/\i=ι (k:Int)/\Hid (pc s.data.toList k y=R)/\Hid (k<s.data.toList.length->nz (s.data.toList.getD k 0)=false)/\κ w wr/\Hid (wr.ownsRow w.heap.size 206 3 v y.length (g9 y))) (λ_ i _=>s.size-(intOf i).toNat)
 case atStart=>exact ⟨E,[],a3,by simp,rfl,aa HR.symm,HO,ag _ _,aa (bd _ _ _ _)⟩
 case round =>
  obtain⟨k,y,hk,a5,rfl,J,W,d,ak⟩:=hrel;obtain⟨wo,rfl⟩:∃wo:ω,wo=wr:=⟨_,rfl⟩;have HL:=aa (hL.after d);by_cases Y:k<s.size
  . have U:k<s.data.toList.length:=(by rw[<-Q.out];exact Y);have am:=aa (W.out U);clear W;cases F:i6 s.data.toList k with
    | none =>have I:=aa (J.out.symm.trans (af8 _ k y U am.out F));have V:=aa F;clear F J;go_wp2_with fail;refine(aib s k _ HL Y (by omega)).mono ?_;rintro e w1⟨rfl,O⟩;rw[V.out,jr];have z:=aa O.size;go_wp2;go_ret2;exact⟨((d.trans (O.mono d.size)).alloc (a6 d.size z) _).alloc (a6 d.size (a6 z (by simp))) _,.inr ⟨k,_,I,rfl,a6 d.size (a6 z (j8 _)),cg.dy (w1.alloc _) 97 _ _ (by simp)⟩⟩
    | some x =>
     obtain⟨t,x⟩:=x;have I:=aa ((ack _ k x t y U am.out F).symm.trans J.out);have V:=aa F;obtain⟨g1,g2⟩:=aae U F;clear F J;go_wp2_with fail;refine(aib s k _ HL Y (by omega)).mono ?_;rintro e w1⟨rfl,O⟩;rw[V.out,jr];have z:=aa O.size;have HN:=aa (bl ak.out O);go_wp2_with (at_builtin;refine wpList_append_own_at _ rfl _ _ 124 rfl w.heap.size 206 i0 (.agg #[ι 0,ι 0,ι 0]) 3 24 underlying124 HI ax a0 a1 rfl (by decide) _ _ _ rfl ((HN.alloc _).alloc _) (δ (w1.heap.size+1) 0) 1 1 (mr t) rfl rfl ?c1 ?c2 ?c3 ?c4 ?c5 ?_)
     case c1=>exact tt _ _ _ _ (by simp)
     case c2=>exact acf t
     case c3=>unfold maxLen;omega
     case c4=>omega
     case c5=>simp;have:=d.size;have:=z.out;omega
     intro v' w2 al ad _ _;have HG:=aa (ck (((d.trans (O.mono d.size)).alloc (a6 d.size z) _).alloc (a6 d.size (a6 z (by simp))) _) ad (by simp;have:=d.size;have:=z.out;omega) (λg hg=>(HN.lt g hg).1));have av:=aa al;clear al ad;go_wp2_with fail;refine(aiv s x _ (by rw[Q.out];exact g2) (by omega)).mono ?_;rintro e w'⟨rfl,rfl⟩;have u1:=zm nz s.data.toList x;have a4:=aa6 nz s.data.toList x g2;go_wp2;go_roundw
     case rel=>exact ⟨je nz s.data.toList x,y ++ [t],by rw[Q.out];exact a4,by simp;omega,rfl,aa ((am6 _ x _).symm.trans I),aa (λh=>aqk nz _ x h),HG,aa (by rw[aec];simpa using av.out)⟩
     case measure=>simp[intOf];have:=Q.out;omega
  . have I:=aa (J.out.symm.trans (aq0 _ k y (by rw[<-Q.out];omega)));clear W J;go_wp2;go_ret2;refine⟨d,.inl ⟨by rw[I.out],_,rfl,?_⟩⟩;rw[I.out];exact ak.out
inductive Ans where
 | toks (o:List Tk)
 | form (k:Int)
 | large
def adh(ts:List Tk)(d:Nat):wv->Ans
 | .bad k=>.form (pg ts d k)
 | .ok k o=>if k=ts.length then (if o.length<=100 then .toks o else .large) else .form (pg ts d k)
def ax9(R:List Tk×Int)(d:Nat):Ans :=
 if R.2=-1 then (match adp R.1 with | some r=>adh R.1 d r | none=>.large) else .form R.2
def fi(s:List UInt8):Ans:=if s.length<=200 then ax9 (pc s 0 []) s.length else .large
def ayf(a:Ans)(w:ω)(e:Ending)(d:ω):Prop :=
 κ w d/\match a with
  | .toks o=>∃v,e=.returned (.tuple #[v,.nilIface])/\d.ownsRow w.heap.size 206 3 v o.length (g9 o)
  | .form k=>∃g,e=.returned (.tuple #[.slice none 0 0,.iface 95 (φ g 0)])/\w.heap.size<=g/\cg d g 97 #[ι k,ι 2]
  | .large=>e=.returned (.tuple #[.slice none 0 0,.iface 93 (ι 3)])
theorem cd{w:ω}{B:Nat}{e:TypeId}{s n:Nat}{v:Value}{xs:List Value}(h:w.ownsRow B e s v n xs):∃A cap,v=.slice A n cap:=by
 rcases h.2 with ⟨h,d⟩ | ⟨a,b,_,h,_⟩
 . exact⟨none,0,by rw[h,d]⟩
 . exact⟨_,_,h⟩
theorem aak{w:ω}{B B':Nat}{e:TypeId}{s n:Nat}{v:Value}{xs:List Value}(h:w.ownsRow B e s v n xs)(E:B'<=B):w.ownsRow B' e s v n xs:=by
 refine⟨h.1,?_⟩;rcases h.2 with d | ⟨a,b,c,y,d,z⟩
 . exact .inl d
 . exact .inr ⟨a,b,c,y,a6 E d,z⟩
theorem al0(ts:List Tk)(y k:Nat)(o:List Tk)(h:k=ts.length)(d:o.length<=100):adh ts y (.ok k o)=.toks o:=by unfold adh;simp only;rw[ao h,ao d]
theorem aiy(ts:List Tk)(d k:Nat)(o:List Tk)(h:k=ts.length)(y:100<o.length):adh ts d (.ok k o)=.large:=by unfold adh;simp only;rw[ao h,ah (by omega)]
theorem al1(ts:List Tk)(d k:Nat)(o:List Tk)(h:k≠ts.length):adh ts d (.ok k o)=.form (pg ts d k):=by unfold adh;simp only;rw[ah h]
theorem acm(l:List UInt8):∀(n k:Nat)(acc:List Tk),(pa n l k acc).2=-1\/∃z:Nat,pa n l k acc=([],(z:Int))
 | 0,k,acc=>.inl rfl
 | n+1,k,acc=>by
  rw[pa];by_cases d:k<l.length
  . rw[ao d];by_cases y:nz (l.getD k 0)=true
    . rw[ao y];exact acm l n (k+1) acc
    . rw[ah y];cases E:i6 l k with
      | none=>exact .inr ⟨k,rfl⟩
      | some x=>exact acm l n x.2 (acc ++ [x.1])
  . rw[ah d];exact .inl rfl
theorem ake(l:List UInt8):(pc l 0 []).2=-1\/∃d:Nat,pc l 0 []=([],(d:Int)):=acm l _ 0 []
theorem pq(p:Value)(w:ω):(binOp .neq 30 (.iface 93 p) .nilIface).run prog w=.ok (.bool true) w:=by kernel_rfl
theorem pn(p:Value)(w:ω):(binOp .neq 30 (.iface 95 p) .nilIface).run prog w=.ok (.bool true) w:=by kernel_rfl
theorem ayp(ts:List Tk)(g:Nat)(d v:Value)(R:wv)(w:ω)(I:ts.length<=1000)(E:adp ts=some R)(F:lg g w d ts)(Q:RSt g d w 0 v []):Calls prog 126 #[φ g 0] w (a6a ts g d R v w):=by
 have h:=(atu ts g d I _ _ (ai _)).r1 0 [] R v (w.drewN 1) E (ar _) (by simp) (F.drewN 1) (Q.drewN 1);have U:=gh ts _ 1 0 [] R E (ar _);have z:∀y,y=w.drew->Calls prog 182 #[φ g 0] y (l4 g d R v w):=λy O=>by subst O;exact h.mono λe W V=>l4.after ((j0.refl g v w).drewN 1) V
 obtain⟨A,J,rfl,_⟩:=F;cases R with
 | bad k=>exact ayo ts g k _ v w z
 | ok k o=>unfold ml at U;exact a1q ts g k J A v o w (by omega) I z
theorem aro(s:ByteArray)(w:ω)(d:200<s.size)(y:s.size<=1000000):Calls prog 65 #[.string s] w (ayf .large w):=by have z:=λW=>pq (ι 3) W;go_enter func65,ntmps65;go_wp2_with fail;refine(aob s w d y).mono ?_;rintro e E⟨rfl,rfl⟩;go_wp2;go_ret2;exact⟨ag _ _,rfl⟩
theorem au0(s:ByteArray)(w:ω)(z:ju w)(hs:s.size<=200)(k:Nat)(E:pc s.data.toList 0 []=([],(k:Int))):Calls prog 65 #[.string s] w (ayf (.form k) w):=by
 have Y:=aa E;have V:=aa z;clear E z;go_enter func65,ntmps65;go_wp2_with fail;refine(aj6 s w V hs).mono ?_;intro e w' J;rw[Y.out]at J;rcases J with ⟨F,⟨d,_⟩ | ⟨k',g,d,rfl,I,y⟩⟩
 . simp at d
 . have Z:k'=k:=(by simp only[Prod.mk.injEq]at d;omega);subst Z;have U:=aa I;have O:=aa y;have Q:=aa F;have hn:=λW=>pn (φ g 0) W;clear d I y F;go_wp2;go_ret2;exact⟨Q,g,rfl,U,O⟩
theorem au1(s:ByteArray)(w:ω)(hL:ju w)(hs:s.size<=200)(ts:List Tk)(R:wv)(hR:pc s.data.toList 0 []=(ts,-1))(hA:adp ts=some R):Calls prog 65 #[.string s] w (ayf (adh ts s.size R) w):=by
 have a4:ts.length<=200:=by have:=aqz s.data.toList;rw[hR,<-Lib.size_eq]at this;simp at this;omega
 have hf:=gh ts _ 1 0 [] R hA (ar _);have HR:=aa hR;have HA:=aa hA;have HL:=aa hL;have Y:=aa hf;have a5:=λW=>l3 W;clear hR hL hA hf;go_enter func65,ntmps65;go_wp2_with fail;refine(aj6 s w HL hs).mono ?_;intro e F hp;rw[HR.out]at hp;rcases hp with ⟨hb,⟨_,v,rfl,av⟩ | ⟨k',g,h1,_⟩⟩
 . have HT:=aa (lg.of (lw.fg av));obtain⟨A,ak,rfl,_⟩:=lw.fg av;have d:=aa hb;clear av hb;go_wp2_with fail;have am:κ F (F.alloc (.cells #[.slice A ts.length ak,ι 0,.slice none 0 0] 163)):=(ag _ _).alloc (ai _) _;have J:Hid (RSt F.heap.size (.slice A ts.length ak) (F.alloc (.cells #[.slice A ts.length ak,ι 0,.slice none 0 0] 163)) 0 (.slice none 0 0) []):=aa ⟨cg.new _ _ _,bd _ _ _ _⟩;have Z:=aa (HT.below am);have ax:=aa am;clear am;refine(ayp ts F.heap.size _ _ R _ (by omega) HA Z J).mono ?_;intro e V hw;cases R with
   | bad k =>obtain ⟨rfl,v',o,E,z⟩:=hw;have y:=aa (ax.mono (ai _) |>.trans (J.below E));have U:=aa z;have ad:=aa (Z.below (J.below E));clear E z;go_wp2_with fail;refine(alt ts F.heap.size k s _ v' _ o ad U (by have:=Y.out;unfold ml at this;omega) (by omega) (by omega)).mono ?_;rintro e w3⟨rfl,a,rfl⟩;go_wp2;go_ret2;refine⟨bx ((d.trans (y.mono d.size)).alloc (a6 d.size y.size) _) a,V.heap.size,rfl,a6 d.size y.size,?_⟩;exact cg.new V 97 #[ι (pg ts s.size k),ι 2]
   | ok k o =>
    obtain⟨rfl,v',E,z⟩:=hw;have y:=aa (ax.mono (ai _) |>.trans (J.below E));have U:=aa z;have ad:=aa (Z.below (J.below E));have a9:o.length<=200:=(by have:=Y.out;unfold ml at this;simp at this;omega);have a1:k<=ts.length:=(by have:=Y.out;unfold ml at this;omega);obtain⟨A',a3,a2⟩:=cd z.own;subst a2;clear E;by_cases I:k=ts.length
    . have O:ac5 ts k=true:=(by unfold ac5;simpa using I);have Q:=aa I;obtain⟨⟨c0,c1,c2⟩,_⟩:=z.blk.ax;rw[O];clear z I O;by_cases al:o.length<=100
      . have hd:decide (100<o.length)=false:=(by simpa using al);go_wp2;go_ret2;rw[al0 _ _ _ _ Q.out al];exact⟨d.trans (y.mono d.size),_,rfl,aak U.own (a6 d.size (j8 _))⟩
      . have hd:decide (100<o.length)=true:=(by simpa using al);have a0:100<o.length:=(by omega);go_wp2;go_ret2;rw[aiy _ _ _ _ Q.out a0];exact⟨d.trans (y.mono d.size),rfl⟩
    . have O:ac5 ts k=false:=(by unfold ac5;simpa using I);have Q:=aa I;rw[O];clear z I O;go_wp2_with fail;refine(alt ts F.heap.size k s _ _ _ o ad U a1 (by omega) (by omega)).mono ?_;rintro e w3⟨rfl,a,rfl⟩;go_wp2;go_ret2;rw[al1 _ _ _ _ Q.out];refine⟨bx ((d.trans (y.mono d.size)).alloc (a6 d.size y.size) _) a,V.heap.size,rfl,a6 d.size y.size,?_⟩;exact cg.new V 97 #[ι (pg ts s.size k),ι 2]
 . simp at h1
theorem ana(s:ByteArray)(w:ω)(y:ju w)(E:s.size<=1000000):Calls prog 65 #[.string s] w (ayf (fi s.data.toList) w):=by
 unfold fi;rw[<-Lib.size_eq];by_cases h:s.size<=200
 . rw[ao h];unfold ax9;rcases ake s.data.toList with d | ⟨k,d⟩
   . obtain⟨R,z⟩:=abe (pc s.data.toList 0 []).1;rw[ao d,z];exact au1 s w y h _ R (by rw[<-d]) z
   . rw[d,ah (by simp)];exact au0 s w y h k d
 . rw[ah h];exact aro s w (by omega) E
theorem cg.nv{w:ω}{g:Nat}{t:TypeId}{x y z u:Value}(h:cg w g t #[x,y,z,u]) :
 (w.cell? (δ g 0)=some x/\w.cell? (δ g 1)=some y/\w.cell? (δ g 2)=some z/\w.cell? (δ g 3)=some u)/\(w.frozen? (δ g 0)=false/\w.frozen? (δ g 1)=false/\w.frozen? (δ g 2)=false/\w.frozen? (δ g 3)=false) :=
 ⟨⟨h.cell 0,h.cell 1,h.cell 2,h.cell 3⟩,h.frozen 0,h.frozen 1,h.frozen 2,h.frozen 3⟩
structure QSt (g:Nat) (vin:Value) (w:World) (k:Nat) (v:Value) (o:List Tk) (bad:Bool):Prop where
 blk:cg w g 282 #[vin,ι k,v,.bool bad]
 own:w.ownsRow (g+1) 206 3 v o.length (g9 o)
theorem QSt.drewN{g k:Nat}{d v:Value}{w:ω}{o:List Tk}{b:Bool}(h:QSt g d w k v o b)(n:Nat):QSt g d (w.drewN n) k v o b:=⟨h.blk.drewN n,h.own⟩
theorem QSt.lt{g k:Nat}{d v:Value}{w:ω}{o:List Tk}{b:Bool}(h:QSt g d w k v o b):g<w.heap.size:=h.blk.lt
theorem QSt.at_{g k:Nat}{y v:Value}{w:ω}{o:List Tk}{b:Bool}(h:QSt g y w k v o b)(d:Nat):QSt g y (w.setCell (δ g 1) (ι d)) d v o b :=
 ⟨h.blk.ca 1 _,agh h.own _ _ (nl g)⟩
theorem QSt.a95{g k:Nat}{d v:Value}{w:ω}{o:List Tk}{b:Bool}(h:QSt g d w k v o b):QSt g d (w.setCell (δ g 3) (.bool true)) k v o true :=
 ⟨h.blk.ca 3 _,agh h.own _ _ (nl g)⟩
theorem QSt.bc1{g k:Nat}{y v v':Value}{w d:ω}{o:List Tk}{b:Bool}{t:Tk}(h:QSt g y w k v o b)(E:w.grownBy d v.ownBlock)(I:d.ownsRow (g+1) 206 3 v' (o.length+1) (g9 o++mr t)):QSt g y (d.setCell (δ g 2) v') k v' (o ++ [t]) b:=by
 have F:some g≠v.ownBlock:=λz=>by have:=(h.own.lt g z.symm).1;omega
 exact⟨(h.blk.grown E F).ca 2 v',agh (aaj I) 2 v' (nl g)⟩
theorem QSt.kept{g k:Nat}{y v:Value}{w z:ω}{o:List Tk}{b:Bool}(h:QSt g y w k v o b)(d:κ w z):QSt g y z k v o b:=⟨h.blk.below d h.blk.lt,bl h.own d⟩
theorem aom(g k:Nat)(y v:Value)(w:ω)(d:cg w g 282 #[y,ι k,v,.bool true]) :
 Calls prog 294 #[φ g 0] w λe z=>e=.returned (ι 0)/\∃n,z=w.drewN n:=by
 obtain⟨⟨E,F,I,J⟩,_⟩:=d.nv;clear d;go_enter func294,ntmps294;go_wp2;go_quiet (fail);go_wp2;go_ret;exact⟨rfl,_,rfl⟩
theorem a7t(g:Nat)(y v:Value)(ts:List Tk)(w:ω)(A:Option Addr)(cap:Nat)(z:y=.slice A ts.length cap)(d:cg w g 282 #[y,ι ts.length,v,.bool false])(Q:ts.length<=1000000) :
 Calls prog 294 #[φ g 0] w λe E=>e=.returned (ι 0)/\∃n,E=w.drewN n:=by
 subst z;obtain⟨⟨F,I,J,O⟩,_⟩:=d.nv;clear d;go_enter func294,ntmps294;go_wp2;go_quiet (fail);go_wp2;go_ret;exact⟨rfl,_,rfl⟩
theorem a28(g k b o cap:Nat)(v:Value)(ts:List Tk)(x:Int)(w:ω)(d:cg w g 282 #[.slice (some (δ b o)) ts.length cap,ι k,v,.bool false])(O:k<ts.length)(U:ts.length<=1000000)(V:w.cell? (δ b (o+k*3))=some (ι x)) :
 Calls prog 294 #[φ g 0] w λe y=>e=.returned (ι x)/\∃n,y=w.drewN n:=by
 obtain⟨⟨z,E,F,I⟩,_⟩:=d.nv;have J:decide (ts.length<=k)=false:=by simp;omega
 have Q:(k:Int)<(ts.length:Int):=by omega
 clear d;go_enter func294,ntmps294;go_wp2;go_quiet (fail);go_wp2;go_quiet (fail);go_wp2;go_ret;exact⟨rfl,_,ahw _ _ _⟩
theorem ov(ts:List Tk)(g k:Nat)(y v:Value)(w:ω)(o:List Tk)(O:lg g w y ts)(E:QSt g y w k v o false)(hk:k<=ts.length)(F:ts.length<=1000000) :
 Calls prog 294 #[φ g 0] w λe U=>e=.returned (ι (jt ts k))/\∃n,U=w.drewN n:=by
 obtain⟨A,z,I,Z,Q⟩:=O;rcases et k ts.length with d | ad
 . obtain⟨b,o,rfl,Y,J,V,W⟩:=Q k ts[k] (ae d);rw[aht (ae d)];subst I;exact a28 g k b o z v ts _ w E.blk d F J
 . obtain rfl:k=ts.length:=(by omega);rw[axk];exact a7t g y v ts w A z I E.blk F
theorem wg(g k:Nat)(kd x:Int)(I v:Value)(o:List Tk)(b:Bool)(w:ω)(y:QSt g I w k v o b)(ho:o.length<=1000000) :
 Calls prog 295 #[φ g 0,ι kd,ι x] w λe J=>e=.returned (.tuple #[])/\Below g w J/\∃v',QSt g I J k v' (o ++ [(kd,x,0)]) b:=by
 obtain⟨i0,U,V,W,Y⟩:=ιp Tryz.ai3;have d:=aa y;have hg:=y.lt;obtain⟨⟨d0,d1,d2,d3⟩,e0,e1,e2,e3⟩:=y.blk.nv;clear y;go_enter func295,ntmps295;go_wp2_with (at_builtin;refine wpList_append_own_at _ rfl _ _ 124 rfl (g+1) 206 i0 (.agg #[ι 0,ι 0,ι 0]) 3 24 underlying124 U V W Y rfl (by decide) _ _ _ rfl (d.own.alloc _) (δ w.heap.size 0) 1 1 (mr (kd,x,0)) rfl rfl ?c1 ?c2 ?c3 ?c4 ?c5 ?_)
 case c1=>exact tt _ _ (kd,x,0) _ rfl
 case c2=>exact acf _
 case c3=>unfold maxLen;omega
 case c4=>omega
 case c5=>simp;omega
 intro v2 w2 E z _ ad;obtain⟨g2,Z,rfl⟩:=ky E;have O:=aa ((d.kept ((ag _ _).alloc (ai _) _)).bc1 z E);have Q:=aa ((((ag g w).alloc (su hg) _).grown z (by simp;omega) (λj hj=>by have:=(d.own.lt j hj).1;omega)).setCell (p:=(δ g 2)) (by simp) (.slice (some (δ g2 0)) (o.length+1) Z));have F:some g≠v.ownBlock:=λhc=>by have:=(d.own.lt g hc.symm).1;omega
 obtain⟨⟨d0,d1,d2,d3⟩,e0,e1,e2,e3⟩:=((d.blk.alloc _).grown z F).nv;clear E z ad F;go_wp2;go_end0;exact⟨rfl,Q,_,O⟩
theorem qy(x:Int)(w:ω):Calls prog 296 #[ι x] w λe d=>e=.returned (ι (lvl x:Nat))/\w=d:=by
 go_enter func296,ntmps296;go_wp2;all_goals
  go_ret
  refine⟨cw ?_,rfl⟩
  unfold lvl
  (repeat' split)<;>first | rfl | (exfalso;simp_all;omega) | (exfalso;simp_all) | (exfalso;omega)
def aem(g:Nat)(z:Value)(E:Nat)(F:List Tk)(R:wv)(w:ω)(e:Ending)(y:ω):Prop :=
 e=.returned (.tuple #[])/\Below g w y/\match R with
  | .ok k o=>∃d,QSt g z y k d o false
  | .bad k=>∃d o,QSt g z y k d o true/\o.length+E<=F.length+k
def a6i(ts:List Tk)(g:Nat)(y:Value)(n:Nat):Prop :=
 ∀(k:Nat)(d:List Tk)(R:wv)(v:Value)(w:ω),rd ts n 6 k d=some R->k<=ts.length->d.length<=k->lg g w y ts->QSt g y w k v d false->
  Calls prog 293 #[φ g 0] w (aem g y k d R w)
def ph(ts:List Tk)(g:Nat)(y:Value)(n z:Nat):Prop :=
 ∀(k:Nat)(d:List Tk)(R:wv)(v:Value)(x:Int)(w:ω),rd ts n z k d=some R->k<=ts.length->d.length<=k->lg g w y ts->QSt g y w k v d false->x=(z:Int)->
  Calls prog 280 #[φ g 0,ι x] w (aem g y k d R w)
theorem aem.ret{g d:Nat}{z:Value}{y:List Tk}{R:wv}{w E:ω}{e:Ending}(h:aem g z d y R w e E):e=.returned (.tuple #[]):=h.1
theorem a8i(ts:List Tk)(g n k:Nat)(y v:Value)(d:List Tk)(R:wv)(w:ω)(hl:ts.length<=1000)(hF:a6i ts g y n)(hk:k<=ts.length)(ho:d.length<=k)(hT:lg g w y ts)(W:QSt g y w k v d false)
 (hc:jt ts k=4)(hR:jl (rd ts n 6 (k+1) d) (λI o=>some (.ok I (o ++ [(19,0,0)])))=some R):Calls prog 293 #[φ g 0] w (aem g y k d R w):=by
 have am:k<ts.length:=p6 (by omega);obtain⟨U,V,rfl⟩:=afx hR;have ak:=aa (gh ts n 6 (k+1) d U V am);have HF:=aa hF;have HT:=aa hT;have HS:=aa W;have HC:=aa hc;have av:=aa V;obtain⟨⟨c0,c1,c2,c3⟩,f0,f1,f2,f3⟩:=W.blk.nv;clear hF hT W hc hR V;go_enter func293,ntmps293;go_wp2_with fail;refine(ov ts g k y v _ d HT HS hk (by omega)).mono ?_;rintro e w1⟨rfl,a,rfl⟩;rw[HC.out];go_wp2_with fail;have Y:Below g w (w.setCell (δ g 1) (ι ((k:Int)+1))):=(ag _ _).setCell (by simp) _;have a0:=aa ((HT.below Y).drewN a);have ax:=aa ((HS.at_ (k+1)).drewN a);have HB:=aa (bx Y a);clear Y;refine(HF (k+1) d U v _ av am (by omega) a0 ax).mono ?_;rintro e w2⟨rfl,al,hm⟩;have ad:=aa (HB.trans al);clear al;cases U with
 | ok I Z =>obtain ⟨v',E⟩:=hm;have O:=aa E;clear E;go_wp2_with fail;refine(wg g I 19 0 y v' Z false _ O (by have:=ak.out;unfold ml at this;omega)).mono ?_;rintro e w3⟨rfl,z,v3,F⟩;have J:=aa (ad.trans z);have Q:=aa F;clear z F;go_wp2;go_end0;exact⟨rfl,J,v3,Q⟩
 | bad I =>obtain ⟨v',Z,E,a1⟩:=hm;have O:=aa E;clear E;go_wp2_with fail;refine(wg g I 19 0 y v' Z true _ O (by have:=ak.out;unfold ml at this;omega)).mono ?_;rintro e w3⟨rfl,z,v3,F⟩;have J:=aa (ad.trans z);have Q:=aa F;clear z F;go_wp2;go_end0;exact⟨rfl,J,v3,_,Q,by simp only[aw,bm,dg];omega⟩
theorem ao1(ts:List Tk)(g k b o cap:Nat)(x y z:Int)(v:Value)(d:List Tk)(w:ω)(hl:ts.length<=1000)(hk:k<ts.length)(ho:d.length<=k)(J:lg g w (.slice (some (δ b o)) ts.length cap) ts)(E:QSt g (.slice (some (δ b o)) ts.length cap) w k v d false)
 (hb:b<g)(h0:w.cell? (δ b (o+k*3))=some (ι x))(h1:w.cell? (δ b (o+k*3+1))=some (ι y))(Q:jt ts k=x)(Z:x=1\/x=2\/x=15\/x=16) :
 Calls prog 293 #[φ g 0] w (aem g (.slice (some (δ b o)) ts.length cap) k d (.ok (k+1) (d ++ [(x,y,0)])) w):=by
 have W:=aa J;have I:=aa E;have Y:=aa Q;have al:(k:Int)<(ts.length:Int):=by omega
 have ak:(0:Int)<=(k:Int):=qs _;have hg:=E.lt;have ad:b<w.heap.size:=by omega
 obtain⟨⟨c0,c1,c2,c3⟩,f0,f1,f2,f3⟩:=E.blk.nv;clear J E Q;rcases Z with rfl | rfl | rfl | rfl;all_goals
  go_enter func293,ntmps293
  go_wp2_with fail
  refine(ov ts g k _ v _ d W I (by omega) (by omega)).mono ?_
  rintro e w1⟨rfl,a,rfl⟩
  rw[Y.out]
  go_wp2_with fail
  first
   | (go_region_with (go_at_call 295;refine (wg g k _ y _ v d false _ ((I.drewN a).drewN 1) (by omega)).mono ?_;rintro e w3⟨rfl,O,v3,F⟩;have U:=aa O;have V:=aa F;obtain ⟨⟨d0,d1,d2,d3⟩,e0,e1,e2,e3⟩:=F.blk.nv;clear O F))
   | fail
  all_goals
   go_wp2
   go_end0
   exact⟨rfl,((bx (bx (ag g w) a) 1).trans U).setCell (by simp) _,v3,V.at_ (k+1)⟩
theorem a8k(ts:List Tk)(g k:Nat)(z v:Value)(d:List Tk)(w:ω)(hl:ts.length<=1000)(U:k<=ts.length)(J:lg g w z ts)(y:QSt g z w k v d false)
 (I:jt ts k≠4)(O:yp (jt ts k)=false)(F:jt ts k≠17):Calls prog 293 #[φ g 0] w (aem g z k d (.bad k) w):=by
 have Q:=aa J;have E:=aa y;obtain⟨n1,n2,ad,ak⟩:=axc O;have n4:(jt ts k==4)=false:=by simpa using I
 have al:(jt ts k==17)=false:=by simpa using F
 obtain⟨⟨V,W,Y,Z⟩,f0,f1,f2,f3⟩:=y.blk.nv;clear J y I O F;go_enter func293,ntmps293;go_wp2_with fail;refine(ov ts g k _ v _ d Q E U (by omega)).mono ?_;rintro e w1⟨rfl,a,rfl⟩;generalize jt ts k=x at *;go_wp2;go_end0;exact⟨rfl,bx ((ag g w).setCell (by simp) _) a,v,d,(E.a95).drewN a,by omega⟩
theorem a3r(ts:List Tk)(g n k:Nat)(E v:Value)(z:List Tk)(R:wv)(w:ω)(hl:ts.length<=1000)(hF:ph ts g E n 1)(hk:k<=ts.length)(ho:z.length<=k)(hT:lg g w E ts)(hS:QSt g E w k v z false)
 (hc:jt ts k=17)(V:jl (rd ts n 1 (k+1) z) (λy o=>if jt ts y=18 then some (.ok (y+1) o) else some (.bad y))=some R):Calls prog 293 #[φ g 0] w (aem g E k z R w):=by
 have am:k<ts.length:=p6 (by omega);have HF:=aa hF;have HT:=aa hT;have HS:=aa hS;have HC:=aa hc;obtain⟨⟨c0,c1,c2,c3⟩,f0,f1,f2,f3⟩:=hS.blk.nv;obtain⟨U,W⟩:∃U,rd ts n 1 (k+1) z=some U:=by
  rcases fc V with ⟨y,h,_⟩ | ⟨y,Q,h,_⟩
  . exact⟨_,h⟩
  . exact⟨_,h⟩
 have ax:=aa (gh ts n 1 (k+1) z U W am);have a0:=aa W;rw[W]at V;have Z:=aa V;clear hF hT hS hc V W;go_enter func293,ntmps293;go_wp2_with fail;refine(ov ts g k E v _ z HT HS hk (by omega)).mono ?_;rintro e w1⟨rfl,a,rfl⟩;rw[HC.out];go_wp2_with fail;have hb:Below g w (w.setCell (δ g 1) (ι ((k:Int)+1))):=(ag _ _).setCell (by simp) _;have ak:=aa ((HT.below hb).drewN a);have a1:=aa ((HS.at_ (k+1)).drewN a);have HB:=aa (bx hb a);clear hb;refine(HF (k+1) z U v 1 _ a0 am (by omega) ak a1 rfl).mono ?_;rintro e w2⟨rfl,ad,hm⟩;have al:=aa (ak.below ad);have Y:=aa (HB.trans ad);clear ad c0 c1 c2 c3 f0 f1 f2 f3;cases U with
 | ok y Q =>
  obtain⟨J,I⟩:=hm;have F:=aa I;have hf:=ax.out;unfold ml at hf;obtain⟨⟨c0,c1,c2,c3⟩,f0,f1,f2,f3⟩:=I.blk.nv;clear I;by_cases O:jt ts y=18
  . have d:=Z.out;simp only[jl]at d;rw[ao O]at d;injection d with d;subst d;have av:=aa O;clear O;go_wp2_with fail;refine(ov ts g y E J _ Q al F (by omega) (by omega)).mono ?_;rintro e w3⟨rfl,c,rfl⟩;rw[av.out];go_wp2;go_end0;exact⟨rfl,bx (Y.setCell (by simp) _) c,J,(F.at_ (y+1)).drewN c⟩
  . have d:=Z.out;simp only[jl]at d;rw[ah O]at d;injection d with d;subst d;have a2:(jt ts y==18)=false:=(by simpa using O);clear O;go_wp2_with fail;refine(ov ts g y E J _ Q al F (by omega) (by omega)).mono ?_;rintro e w3⟨rfl,c,rfl⟩;generalize jt ts y=x at *;go_wp2;go_end0;exact⟨rfl,bx (Y.setCell (by simp) _) c,J,Q,(F.a95).drewN c,by omega⟩
 | bad y =>have d:=Z.out;simp only[jl]at d;injection d with d;subst d;obtain⟨J,Q,I,a3⟩:=hm;have F:=aa I;obtain⟨⟨c0,c1,c2,c3⟩,f0,f1,f2,f3⟩:=I.blk.nv;clear I;go_wp2_with fail;refine(aom g y E J _ F.blk).mono ?_;rintro e w3⟨rfl,c,rfl⟩;go_wp2;go_end0;exact⟨rfl,bx (Y.setCell (by simp) _) c,J,Q,(F.a95).drewN c,by omega⟩
theorem a8l(ts:List Tk)(g n:Nat)(F:Value)(U:ts.length<=1000)(hF:a6i ts g F n)(ak:ph ts g F n 1):a6i ts g F (n+1):=by
 intro k y R v w d V W I Q;by_cases O:jt ts k=4
 . rw[aje n y O]at d;exact a8i ts g n k F v y R w U hF V W I Q O d
 . by_cases z:yp (jt ts k)=true
   . rw[ajd n y z]at d;injection d with d;subst d;have E:=ao0 z;have al:=I;obtain⟨A,ad,rfl,hc,hi⟩:=I;obtain⟨b,o,rfl,hb,Y,Z,c2⟩:=hi k ts[k] (ae E);rw[aht (ae E)]at z;rw[aht (ae E),a3v (ae E)];exact ao1 ts g k b o ad _ _ 0 v y w U E W al Q hb Y Z (aht (ae E)) (axd z)
   . by_cases J:jt ts k=17
     . rw[agc n y J]at d;exact a3r ts g n k F v y R w U ak V W I Q J d
     . rw[ajf n y O (by simpa using z) J]at d;injection d with d;subst d;exact a8k ts g k F v y w U V I Q O (by simpa using z) J
def mh(t:Tk):Int :=
 if t.2.2≠0\/t.2.1<0 then -1
 else if t.1=1\/(t.1=2/\t.2.1<26) then 0
 else if t.2.1≠0 then -1
 else if t.1=15\/t.1=16 then 0
 else if t.1=14\/t.1=19 then 1
 else if lvl t.1≠0 then 2 else -1
def cnt:List Tk->Int->Option Int
 | [],n=>some n
 | t::r,n=>if mh t<0\/n<mh t then none else cnt r (n-mh t+1)
def ae6(ts:List Tk):Bool:=decide (ts.length<=100)&&decide (cnt ts 0=some 1)
def sgn(t:Tk):List UInt8 :=
 if t.1=19 then [45] else if t.1=14 then [110,111,116,32] else if t.1=12 then [32,97,110,100,32] else if t.1=13 then [32,111,114,32] else a2e t
structure El where
 s:List UInt8
 f:Nat
 ok:Bool
def unS(t:Tk)(x:List UInt8):List UInt8:=[40]++sgn t++x ++ [41]
def a9q(t:Tk)(a b:List UInt8):List UInt8:=[40]++a++sgn t++b ++ [41]
def step(i:Nat)(t:Tk)(S:List El):List El :=
 if mh t=0 then ⟨a2e t,i,true⟩::S
 else if mh t=1 then
  match S with
  | x::d=>⟨unS t x.s,x.f,x.ok&&decide ((unS t x.s).length<=200)⟩::d
  | []=>[]
 else
  match S with
  | b::a::d=>⟨a9q t a.s b.s,a.f,b.ok&&(a.ok&&decide ((a9q t a.s b.s).length<=200))⟩::d
  | _=>[]
def stk(ts:List Tk):Nat->List El
 | 0=>[]
 | i+1=>step i (ts.getD i (0,0,0)) (stk ts i)
def td(ts:List Tk)(i:Nat):Prop:=∀j,j<i->0<=mh (ts.getD j (0,0,0))/\mh (ts.getD j (0,0,0))<=(stk ts j).length
theorem td.mono{ts:List Tk}{i j:Nat}(h:td ts i)(d:j<=i):td ts j:=λk y=>h k (by omega)
theorem ot(t:Tk):mh t=-1\/mh t=0\/mh t=1\/mh t=2:=by
 unfold mh;split;· simp
 split;· simp
 split;· simp
 split;· simp
 split;· simp
 split<;>simp
theorem a2m{i:Nat}{t:Tk}{S:List El}(z:0<=mh t)(h:mh t<=S.length):((step i t S).length:Int)=S.length-mh t+1:=by
 unfold step;rcases ot t with c | c | c | c
 . omega
 . rw[ao c,c];simp
 . rw[ah (by omega),ao c,c];rcases S with _ | ⟨x,d⟩
   . simp at h;omega
   . simp
 . rw[ah (by omega),ah (by omega),c];rcases S with _ | ⟨x,_ | ⟨y,d⟩⟩
   . simp at h;omega
   . simp at h;omega
   . simp;omega
theorem ahf{ts:List Tk}{i:Nat}(h:td ts (i+1)):((stk ts (i+1)).length:Int)=(stk ts i).length-mh (ts.getD i (0,0,0))+1:=a2m (h i (by omega)).1 (h i (by omega)).2
theorem anp(ts:List Tk)(c:Int):∀(n j:Nat),ts.length-j<=n->j<=ts.length->td ts j->cnt (ts.drop j) (stk ts j).length=some c->td ts ts.length/\((stk ts ts.length).length:Int)=c
 | 0,j,h,O,y,d=>by
  obtain rfl:j=ts.length:=by omega
  rw[bz,cnt]at d;injection d with d;exact⟨y,d⟩
 | n+1,j,h,O,y,d=>by
  rcases et j ts.length with F | Q
  . rw[bp F,cnt]at d;have E:ts.getD j (0,0,0)=ts[j]:=(by simp[List.getD,ae F]);by_cases I:mh ts[j]<0\/((stk ts j).length:Int)<mh ts[j]
    . rw[ao I]at d;cases d
    . rw[ah I]at d;have J:td ts (j+1):=λk U=>by
       rcases et k j with z | z
       . exact y k z
       . obtain rfl:k=j:=(by omega);rw[E];omega
      refine anp ts c n (j+1) (by omega) (by omega) J ?_;rw[ahf J,E];exact d
  . obtain rfl:j=ts.length:=(by omega);rw[bz,cnt]at d;injection d with d;exact⟨y,d⟩
theorem abi{ts:List Tk}(h:ae6 ts=true):ts.length<=100/\td ts ts.length/\∃x,stk ts ts.length=[x]:=by
 unfold ae6 at h;simp only[bj,bi]at h;obtain⟨E,d⟩:=anp ts 1 ts.length 0 (by omega) (by omega) (λj F=>by omega) h.2;refine⟨h.1,E,?_⟩;rcases z:stk ts ts.length with _ | ⟨x,_ | ⟨y,S⟩⟩
 . rw[z]at d;simp at d
 . exact⟨x,rfl⟩
 . rw[z]at d;simp at d;omega
theorem aj8(ts:List Tk)(i:Nat):stk ts (i+1)=step i (ts.getD i (0,0,0)) (stk ts i):=rfl
theorem a2r{i:Nat}{t:Tk}(S:List El)(h:mh t=0):step i t S=⟨a2e t,i,true⟩::S:=by unfold step;rw[ao h]
theorem a2q{i:Nat}{t:Tk}(x:El)(S:List El)(h:mh t=1):step i t (x::S)=⟨unS t x.s,x.f,x.ok&&decide ((unS t x.s).length<=200)⟩::S:=by unfold step;rw[ah (by omega),ao h]
theorem a2p{i:Nat}{t:Tk}(b a:El)(S:List El)(h:mh t=2):step i t (b::a::S)=⟨a9q t a.s b.s,a.f,b.ok&&(a.ok&&decide ((a9q t a.s b.s).length<=200))⟩::S:=by unfold step;rw[ah (by omega),ah (by omega)]
theorem aaf(ts:List Tk):∀(n i:Nat),i<=n->td ts i->∀x S,stk ts i=x::S->x.f<i/\S=stk ts x.f
 | n,0,_,_,x,S,h=>by cases h
 | 0,i+1,U,_,_,_,_=>by omega
 | n+1,i+1,U,F,x,S,h=>by
  rw[aj8]at h;have V:=(F i (by omega)).1;have z:=(F i (by omega)).2;rcases ot (ts.getD i (0,0,0)) with c | c | c | c
  . omega
  . rw[a2r _ c]at h;injection h with I E;subst I;exact⟨by simp,E.symm⟩
  . rcases d:stk ts i with _ | ⟨y,J⟩
    . rw[d,c]at z;simp at z
    . rw[d,a2q _ _ c]at h;injection h with I E;have:=aaf ts n i (by omega) (F.mono (by omega)) y J d;subst I;subst E;exact⟨by simp;omega,this.2⟩
  . rcases d:stk ts i with _ | ⟨b,_ | ⟨a,J⟩⟩
    . rw[d,c]at z;simp at z
    . rw[d,c]at z;simp at z
    . rw[d,a2p _ _ _ c]at h;injection h with I E;have O:=aaf ts n i (by omega) (F.mono (by omega)) b (a::J) d;have Q:=aaf ts n b.f (by omega) (F.mono (by omega)) a J O.2.symm;subst I;subst E;exact⟨by simp;omega,Q.2⟩
def abq(t:Tk)(w:ω)(e:Ending)(d:ω):Prop :=
 κ w d/\∃n:Int,e=.returned (.tuple #[ι n,.bool (decide (0<=mh t))])/\(0<=mh t->n=mh t)/\0<=n/\n<=2
theorem awx(n:Int):mh (1,n,0)=if 0<=n then 0 else -1:=by unfold mh;simp only;by_cases h:0<=n<;>simp[h]<;>omega
theorem aww(n:Int):mh (2,n,0)=if 0<=n/\n<=25 then 0 else -1:=by
 unfold mh;simp only;by_cases h:0<=n/\n<=25
 . rw[ah (by omega),ao (Or.inr ⟨trivial,by omega⟩),ao h]
 . rw[ah h];by_cases d:n<0
   . rw[ao (by omega)]
   . rw[ah (by omega),ah (by omega),ao (by omega)]
theorem a2h(k n a:Int)(h:a≠0):mh (k,n,a)=-1:=by unfold mh;simp only;rw[ao (.inl h)]
def si(k:Int):Int:=if k=15\/k=16 then 0 else if k=14\/k=19 then 1 else if lvl k≠0 then 2 else -1
theorem aod(k n:Int)(d:k≠1)(y:k≠2):mh (k,n,0)=if n=0 then si k else -1:=by
 unfold mh si;simp only;by_cases h:n=0
 . rw[ah (by omega),ah (by omega),ah (by omega),ao h]
 . rw[ah h];by_cases z:n<0
   . rw[ao (by omega)]
   . rw[ah (by omega),ah (by omega),ao (by omega)]
theorem aia{t:Tk}{w d:ω}{n:Int}{b:Bool}(E:κ w d)(y:0<=n)(z:n<=2)(h:b=decide (0<=mh t))(F:0<=mh t->n=mh t):abq t w (.returned (.tuple #[ι n,.bool b])) d :=
 ⟨E,n,by rw[h],F,y,z⟩
theorem a2f(k n a:Int)(w:ω)(h:a≠0):Calls prog 258 #[.agg #[ι k,ι n,ι a]] w (abq (k,n,a) w):=by
 have y:(a==0)=false:=by simpa using h
 have z:(a != 0)=true:=by simpa using h
 have d:=aa (a2h k n a h);clear h;go_enter func258,ntmps258;go_wp2;go_ret2;exact aia ((ag _ _).alloc (ai _) _) (by omega) (by omega) (by rw[d.out];rfl) (by rw[d.out];omega)
theorem ay0(n:Int)(w:ω):Calls prog 258 #[.agg #[ι 1,ι n,ι 0]] w (abq (1,n,0) w):=by
 have d:=aa (awx n);by_cases h:0<=n
 . have y:decide (0<=n)=true:=(by simpa using h);go_enter func258,ntmps258;go_wp2;go_quiet (fail);go_wp2;go_ret2;exact aia (bx ((ag _ _).alloc (ai _) _) _) (by omega) (by omega) (by rw[d.out,ao h];rfl) (by rw[d.out,ao h];omega)
 . have y:decide (0<=n)=false:=(by simpa using h);go_enter func258,ntmps258;go_wp2;go_quiet (fail);go_wp2;go_ret2;exact aia (bx ((ag _ _).alloc (ai _) _) _) (by omega) (by omega) (by rw[d.out,ah (by simpa using y)];rfl) (by rw[d.out,ah (by simpa using y)];omega)
theorem ayz(n:Int)(w:ω):Calls prog 258 #[.agg #[ι 2,ι n,ι 0]] w (abq (2,n,0) w):=by
 have d:=aa (aww n);by_cases h:0<=n
 . have E:decide (0<=n)=true:=(by simpa using h);by_cases z:n<=25
   . have F:decide (n<=25)=true:=(by simpa using z);go_enter func258,ntmps258;go_wp2;go_quiet (fail);go_wp2;go_ret2;exact aia (bx ((ag _ _).alloc (ai _) _) _) (by omega) (by omega) (by rw[d.out,ao ⟨h,z⟩];rfl) (by rw[d.out,ao ⟨h,z⟩];omega)
   . have F:decide (n<=25)=false:=(by simpa using z);have y:=aa (show ¬(0<=n/\n<=25) by omega);go_enter func258,ntmps258;go_wp2;go_quiet (fail);go_wp2;go_ret2;exact aia (bx ((ag _ _).alloc (ai _) _) _) (by omega) (by omega) (by rw[d.out,ah y.out];rfl) (by rw[d.out,ah y.out];omega)
 . have E:decide (0<=n)=false:=(by simpa using h);have y:=aa (show ¬(0<=n/\n<=25) by omega);go_enter func258,ntmps258;go_wp2;go_quiet (fail);go_wp2;go_ret2;exact aia (bx ((ag _ _).alloc (ai _) _) _) (by omega) (by omega) (by rw[d.out,ah y.out];rfl) (by rw[d.out,ah y.out];omega)
theorem a87{k n m:Int}(h:mh (k,n,0)=if n=0 then m else -1)(y:0<=m):(n==0)=decide (0<=mh (k,n,0))/\(0<=mh (k,n,0)->m=mh (k,n,0)):=by
 rw[h];by_cases d:n=0
 . rw[ao d];subst d;simp[y]
 . rw[ah d];simp[d]
theorem ay1(k n:Int)(w:ω)(h:(k=15\/k=16)\/(k=14\/k=19)\/k=3\/k=4\/k=5\/k=6\/k=7\/k=8\/k=9\/k=10\/k=11\/k=12\/k=13):Calls prog 258 #[.agg #[ι k,ι n,ι 0]] w (abq (k,n,0) w):=by
 have y:0<=si k:=by rcases h with (rfl | rfl) | (rfl | rfl) | rfl | rfl | rfl | rfl | rfl | rfl | rfl | rfl | rfl | rfl | rfl<;>decide
 have d:=aa (a87 (aod k n (by omega) (by omega)) y);clear y;rcases h with (rfl | rfl) | (rfl | rfl) | rfl | rfl | rfl | rfl | rfl | rfl | rfl | rfl | rfl | rfl | rfl;all_goals
  go_enter func258,ntmps258
  go_wp2
  go_quiet (fail)
  go_wp2
  go_ret2
  exact aia (bx ((ag _ _).alloc (ai _) _) _) (by omega) (by omega) d.1 d.2
theorem asv{k:Int}(h:¬((k=15\/k=16)\/(k=14\/k=19)\/k=3\/k=4\/k=5\/k=6\/k=7\/k=8\/k=9\/k=10\/k=11\/k=12\/k=13)):si k=-1:=by
 have d:lvl k=0:=by unfold lvl;rw[ah (by omega),ah (by omega),ah (by omega),ah (by omega),ah (by omega)]
 unfold si;rw[ah (by omega),ah (by omega),ah (by omega)]
theorem auc(k n:Int)(w:ω)(d:k≠1)(y:k≠2)(h:¬((k=15\/k=16)\/(k=14\/k=19)\/k=3\/k=4\/k=5\/k=6\/k=7\/k=8\/k=9\/k=10\/k=11\/k=12\/k=13)):Calls prog 258 #[.agg #[ι k,ι n,ι 0]] w (abq (k,n,0) w):=by
 have z:Hid (mh (k,n,0)=-1):=aa (by rw[aod k n d y,asv h];split<;>rfl);have E:(k==1)=false:=by simpa using d
 have Y:(k==2)=false:=by simpa using y
 have U:(k==15)=false:=by simp;omega
 have V:(k==16)=false:=by simp;omega
 have Q:(k==14)=false:=by simp;omega
 have W:(k==19)=false:=by simp;omega
 have Z:(k==3)=false:=by simp;omega
 have b4:(k==4)=false:=by simp;omega
 have b5:(k==5)=false:=by simp;omega
 have b6:(k==6)=false:=by simp;omega
 have b7:(k==7)=false:=by simp;omega
 have b8:(k==8)=false:=by simp;omega
 have b9:(k==9)=false:=by simp;omega
 have F:(k==10)=false:=by simp;omega
 have I:(k==11)=false:=by simp;omega
 have J:(k==12)=false:=by simp;omega
 have O:(k==13)=false:=by simp;omega
 clear h d y;go_enter func258,ntmps258;go_wp2;go_ret2;exact aia ((ag _ _).alloc (ai _) _) (by omega) (by omega) (by rw[z.out];rfl) (by rw[z.out];omega)
theorem ahk(t:Tk)(w:ω):Calls prog 258 #[.agg #[ι t.1,ι t.2.1,ι t.2.2]] w (abq t w):=by
 obtain⟨k,n,a⟩:=t;by_cases z:a=0
 . subst z;by_cases d:k=1
   . subst d;exact ay0 n w
   . by_cases y:k=2
     . subst y;exact ayz n w
     . by_cases h:(k=15\/k=16)\/(k=14\/k=19)\/k=3\/k=4\/k=5\/k=6\/k=7\/k=8\/k=9\/k=10\/k=11\/k=12\/k=13
       . exact ay1 k n w h
       . exact auc k n w d y h
 . exact a2f k n a w z
theorem a7h(k n:Int)(h:n<0):mh (k,n,0)=-1:=by unfold mh;simp only;rw[ao (.inr h)]
theorem akj(k n a:Int)(w:ω)(h:a≠0\/a=0/\n<0):Calls prog 297 #[.agg #[ι k,ι n,ι a]] w λe d=>e=.returned (ι (-1))/\κ w d:=by
 rcases h with h | ⟨rfl,h⟩
 . have y:(a==0)=false:=(by simpa using h);have z:(a != 0)=true:=(by simpa using h);clear h;go_enter func297,ntmps297;go_wp2;go_ret;exact⟨rfl,(ag _ _).alloc (ai _) _⟩
 . have E:decide (n<0)=true:=(by simpa using h);go_enter func297,ntmps297;go_wp2;go_ret;exact⟨rfl,(ag _ _).alloc (ai _) _⟩
theorem auk(n:Int)(w:ω)(h:0<=n):Calls prog 297 #[.agg #[ι 1,ι n,ι 0]] w λe d=>e=.returned (ι 0)/\κ w d:=by
 have y:decide (n<0)=false:=by simpa using h
 go_enter func297,ntmps297;go_wp2;go_ret;exact⟨rfl,(ag _ _).alloc (ai _) _⟩
theorem auj(n:Int)(w:ω)(h:0<=n):Calls prog 297 #[.agg #[ι 2,ι n,ι 0]] w λe z=>e=.returned (ι (if n<=25 then 0 else -1))/\κ w z:=by
 have E:decide (n<0)=false:=by simpa using h
 by_cases d:n<26
 . have y:decide (n<26)=true:=(by simpa using d);rw[ao (by omega)];go_enter func297,ntmps297;go_wp2;go_ret;exact⟨rfl,(ag _ _).alloc (ai _) _⟩
 . have y:decide (n<26)=false:=(by simpa using d);have F:(n==0)=false:=(by simp;omega);have I:(n != 0)=true:=(by simp;omega);rw[ah (by omega)];go_enter func297,ntmps297;go_wp2;go_ret;exact⟨rfl,(ag _ _).alloc (ai _) _⟩
theorem aq1(k n:Int)(w:ω)(h:0<n)(d:k≠1)(y:k≠2):Calls prog 297 #[.agg #[ι k,ι n,ι 0]] w λe z=>e=.returned (ι (-1))/\κ w z:=by
 have I:decide (n<0)=false:=by simp;omega
 have J:(n==0)=false:=by simp;omega
 have O:(n != 0)=true:=by simp;omega
 have E:(k==1)=false:=by simpa using d
 have F:(k==2)=false:=by simpa using y
 clear d y;go_enter func297,ntmps297;go_wp2;go_ret;exact⟨rfl,(ag _ _).alloc (ai _) _⟩
theorem aul(k:Int)(w:ω)(E:k≠1)(F:k≠2):Calls prog 297 #[.agg #[ι k,ι 0,ι 0]] w λe J=>e=.returned (ι (si k))/\κ w J:=by
 have U:(k==1)=false:=by simpa using E
 have b2:(k==2)=false:=by simpa using F
 by_cases c:k=15\/k=16
 . have z:=aa (show si k=0 by unfold si; rw [ao c]);clear E F;rcases c with rfl | rfl;all_goals
    go_enter func297,ntmps297
    go_wp2
    go_ret
    exact⟨cw z.symm,(ag _ _).alloc (ai _) _⟩
 . have W:(k==15)=false:=(by simp;omega);have Y:(k==16)=false:=(by simp;omega);by_cases d:k=14\/k=19
   . have z:=aa (show si k=1 by unfold si; rw [ah c,ao d]);clear E F c;rcases d with rfl | rfl;all_goals
      go_enter func297,ntmps297
      go_wp2
      go_ret
      exact⟨cw z.symm,(ag _ _).alloc (ai _) _⟩
   . have V:(k==14)=false:=(by simp;omega);have Z:(k==19)=false:=(by simp;omega);by_cases l:lvl k=0
     . have z:=aa (show si k=-1 by unfold si;rw[ah c,ah d,ah (by omega)]);have I:=aa l;clear E F c d l;go_enter func297,ntmps297;go_wp2_with fail;refine(qy _ _).mono ?_;rintro e J⟨rfl,rfl⟩;rw[I.out];go_wp2;go_ret;exact⟨cw z.symm,(ag _ _).alloc (ai _) _⟩
     . have z:=aa (show si k=2 by unfold si;rw[ah c,ah d,ao l]);have Q:0<lvl k:=(by omega);generalize O:lvl k=y at Q;have I:=aa O;have ad:decide (0<y)=true:=(by simpa using Q);have ak:decide ((0:Int)<(y:Int))=true:=(by simp;omega);clear E F c d l O;go_enter func297,ntmps297;go_wp2_with fail;refine(qy _ _).mono ?_;rintro e J⟨rfl,rfl⟩;rw[I.out];go_wp2;go_ret;exact⟨cw z.symm,(ag _ _).alloc (ai _) _⟩
theorem aes(t:Tk)(w:ω):Calls prog 297 #[.agg #[ι t.1,ι t.2.1,ι t.2.2]] w λe J=>e=.returned (ι (mh t))/\κ w J:=by
 obtain⟨k,n,a⟩:=t;by_cases E:a=0
 . subst E;by_cases I:n<0
   . rw[a7h k n I];exact akj k n 0 w (.inr ⟨rfl,I⟩)
   . by_cases d:k=1
     . subst d;rw[awx,ao (by omega)];exact auk n w (by omega)
     . by_cases y:k=2
       . subst y;have:=auj n w (by omega);rw[aww];by_cases z:n<=25
         . rw[ao z]at this;rw[ao ⟨by omega,z⟩];exact this
         . rw[ah z]at this;rw[ah (by omega)];exact this
       . rw[aod k n d y];by_cases F:n=0
         . subst F;rw[ao rfl];exact aul k w d y
         . rw[ah F];exact aq1 k n w (by omega) d y
 . rw[a2h k n a E];exact akj k n a w (.inl E)
theorem agy{t:Tk}{r:List Tk}{n:Int}(h:mh t<0\/n<mh t):cnt (t::r) n=none:=by rw[cnt,ao h]
theorem atl{t:Tk}{r:List Tk}{n:Int}(d:0<=mh t)(h:mh t<=n):cnt (t::r) n=cnt r (n-mh t+1):=by rw[cnt,ah (by omega)]
theorem axz{ts:List Tk}{k:Nat}(h:k<ts.length):ts.drop k=ts[k]::ts.drop (k+1):=bp h
def asa(C:Option Int):Bool:=decide (C=some 1)
theorem ak9:asa none=false:=rfl
theorem abj(n:Int):asa (some n)=(n==1):=by unfold asa;rw[dh];simp
theorem axh(ts:List Tk):ae6 ts=(decide (ts.length<=100)&&asa (cnt ts 0)):=rfl
theorem a32(v:Value)(ts:List Tk)(w:ω)(hv:lw w v ts)(hl:ts.length<=100):Calls prog 213 #[v] w λe w'=>e=.returned (.bool (asa (cnt ts 0)))/\κ w w':=by
 obtain⟨A,a0,rfl,hc,ad⟩:=hv;have HE:=aa ad;clear ad;go_enter func213,ntmps213;go_wp2_with fail;go_loopw [3,13] (λl i wr=>∃(k:Nat)(n:Int),k<=ts.length/\i=ι (k:Int)/\l=ι n/\0<=n/\n<=k/\Hid (cnt (ts.drop k) n=cnt ts 0)/\κ w wr) (λ_ i _=>ts.length-(intOf i).toNat)
 case atStart=>exact ⟨0,0,ar _,rfl,rfl,by omega,by omega,aa rfl,ag _ _⟩
 case round =>
  obtain⟨k,n,hk,rfl,rfl,a1,a2,y,d⟩:=hrel;obtain⟨O,rfl⟩:∃O:ω,O=wr:=⟨_,rfl⟩;by_cases ak:k<ts.length
  . obtain⟨b,o,rfl,Y,c0,c1,c2⟩:=HE.out k ts[k] (ae ak);have c0:O.cell? (δ b (o+k*3))=_:=(d.cell (p:=(δ b _)) Y).trans c0;have c1:O.cell? (δ b (o+k*3+1))=_:=(d.cell (p:=(δ b _)) Y).trans c1;have c2:O.cell? (δ b (o+k*3+2))=_:=(d.cell (p:=(δ b _)) Y).trans c2;have W:=aa (axz ak);generalize ts[k]=t at *;have V:=aa ((ag O.heap.size O).alloc (ai _) (.cells #[ι t.1,ι t.2.1,ι t.2.2] 206));by_cases E:0<=mh t
    . have I:decide (0<=mh t)=true:=(by simpa using E);by_cases Z:mh t<=n
      . have F:=aa (show cnt (ts.drop (k+1)) (n-mh t+1)=cnt ts 0 by rw[<-y.out,W.out,atl E Z]);clear y;go_wp2_with fail;refine(ahk t _).mono ?_;rintro e w1⟨z,m,rfl,J,al,am⟩;rw[I];have U:=J E;have Q:=aa ((d.trans (V.mono d.size)).trans (z.mono (by simp;have:=d.size;omega)));have av:=aa U;have ax:m<=n:=(by omega);clear J U z E Z I;go_wp2;go_roundw
        case rel=>exact ⟨k+1,n-m+1,by omega,by go_num,by congr 1;omega,by omega,by omega,aa (by rw[av.out];exact F),Q⟩
        case measure=>simp[intOf];omega
      . have F:=aa (show cnt ts 0=none by rw[<-y.out,W.out,agy (.inr (by omega))]);clear y;go_wp2_with fail;refine(ahk t _).mono ?_;rintro e w1⟨z,m,rfl,J,al,am⟩;rw[I];have U:=J E;have Q:=aa ((d.trans (V.mono d.size)).trans (z.mono (by simp;have:=d.size;omega)));have ax:n<m:=(by omega);clear J U z E Z I;go_wp2;go_ret;exact⟨by rw[F.out];rfl,Q⟩
    . have I:decide (0<=mh t)=false:=(by simpa using E);have F:=aa (show cnt ts 0=none by rw[<-y.out,W.out,agy (.inl (by omega))]);clear y;go_wp2_with fail;refine(ahk t _).mono ?_;rintro e w1⟨z,m,rfl,J,al,am⟩;rw[I];have Q:=aa ((d.trans (V.mono d.size)).trans (z.mono (by simp;have:=d.size;omega)));clear J z E I;go_wp2;go_ret;exact⟨by rw[F.out];rfl,Q⟩
  . obtain rfl:k=ts.length:=(by omega);have F:=aa (show cnt ts 0=some n by rw[<-y.out,bz,cnt]);clear y;go_wp2;go_ret;exact⟨by rw[F.out,abj];rfl,d⟩
theorem a8u(v:Value)(ts:List Tk)(w:ω)(y:lw w v ts)(I:100<ts.length)(J:ts.length<=1000000):Calls prog 213 #[v] w λe z=>e=.returned (.bool false)/\κ w z:=by obtain ⟨A,E,rfl,F,d⟩:=y;clear d;go_enter func213,ntmps213;go_wp2;go_ret;exact⟨rfl,ag _ _⟩
theorem ajm(v:Value)(ts:List Tk)(w:ω)(d:lw w v ts)(y:ts.length<=1000000):Calls prog 213 #[v] w λe z=>e=.returned (.bool (ae6 ts))/\κ w z:=by
 rw[axh];by_cases h:ts.length<=100
 . rw[em h,Bool.true_and];exact a32 v ts w d h
 . rw[df h,sw];exact a8u v ts w d (by omega) y
theorem a3i(v:Value)(ts:List Tk)(w:ω)(hv:lw w v ts)(hl:ts.length<=1000):Calls prog 281 #[v] w λe w'=>e=.returned (.bool (ae6 ts))/\κ w w':=by
 have I:=aa (axh ts);obtain⟨A,a1,rfl,hc,am⟩:=hv;have HE:=aa am;clear am;go_enter func281,ntmps281;go_wp2_with fail;go_loopw [3,4] (λl i wr=>∃(k:Nat)(n:Int),k<=ts.length/\i=ι (k:Int)/\l=ι n/\0<=n/\n<=k/\Hid (cnt (ts.drop k) n=cnt ts 0)/\κ w wr) (λ_ i _=>ts.length-(intOf i).toNat)
 case atStart=>exact ⟨0,0,ar _,rfl,rfl,by omega,by omega,aa rfl,ag _ _⟩
 case round =>
  obtain⟨k,n,hk,rfl,rfl,a3,a4,E,d⟩:=hrel;obtain⟨O,rfl⟩:∃O:ω,O=wr:=⟨_,rfl⟩;by_cases av:k<ts.length
  . obtain⟨b,o,rfl,W,c0,c1,c2⟩:=HE.out k ts[k] (ae av);have c0:O.cell? (δ b (o+k*3))=_:=(d.cell (p:=(δ b _)) W).trans c0;have c1:O.cell? (δ b (o+k*3+1))=_:=(d.cell (p:=(δ b _)) W).trans c1;have c2:O.cell? (δ b (o+k*3+2))=_:=(d.cell (p:=(δ b _)) W).trans c2;have V:=aa (axz av);generalize ts[k]=t at *;have U:=ot t;generalize hg:mh t=m at U;have z:=aa hg;clear hg;by_cases Q:0<=m
    . by_cases hq:m<=n
      . have y:=aa (show cnt (ts.drop (k+1)) (n-m+1)=cnt ts 0 by rw[<-E.out,V.out,atl (by rw[z.out];exact Q) (by rw[z.out];exact hq),z]);have al:decide (m<0)=false:=(by simpa using Q);have Z:decide (n<m)=false:=(by simpa using hq);have a2:m<=2:=(by omega);clear E U;go_wp2_with fail;refine(aes t _).mono ?_;rintro e w1⟨rfl,F⟩;rw[z.out];have J:=aa (d.trans (F.mono d.size));clear F;go_wp2;go_roundw
        case rel=>exact ⟨k+1,n-m+1,by omega,by go_num,rfl,by omega,by omega,y,J⟩
        case measure=>simp[intOf];omega
      . have y:=aa (show cnt ts 0=none by rw[<-E.out,V.out,agy (.inr (by rw[z.out];omega))]);have al:decide (m<0)=false:=(by simpa using Q);have Z:decide (n<m)=true:=(by simpa using hq);have ax:n<m:=(by omega);clear E U;go_wp2_with fail;refine(aes t _).mono ?_;rintro e w1⟨rfl,F⟩;rw[z.out];have J:=aa (d.trans (F.mono d.size));clear F;go_wp2;go_ret;exact⟨by rw[I.out,y.out,ak9,Bool.and_false];rfl,J⟩
    . have y:=aa (show cnt ts 0=none by rw[<-E.out,V.out,agy (.inl (by rw[z.out];omega))]);have al:decide (m<0)=true:=(by simpa using Q);have ax:m<0:=(by omega);clear E U;go_wp2_with fail;refine(aes t _).mono ?_;rintro e w1⟨rfl,F⟩;rw[z.out];have J:=aa (d.trans (F.mono d.size));clear F;go_wp2;go_ret;exact⟨by rw[I.out,y.out,ak9,Bool.and_false];rfl,J⟩
  . obtain rfl:k=ts.length:=(by omega);have y:=aa (show cnt ts 0=some n by rw[<-E.out,bz,cnt]);clear E;by_cases ad:n=1
    . subst ad;by_cases ak:ts.length<=100
      . have Y:decide (ts.length<=100)=true:=(by simpa using ak);have Z:decide ((ts.length:Int)<=100)=true:=(by simp;omega);go_wp2;go_ret;exact⟨by rw[I.out,y.out,abj,Y];rfl,d⟩
      . have Y:decide (ts.length<=100)=false:=(by simpa using ak);have Z:decide ((ts.length:Int)<=100)=false:=(by simp;omega);go_wp2;go_ret;exact⟨by rw[I.out,y.out,abj,Y];rfl,d⟩
    . have a0:(n==1)=false:=(by simpa using ad);clear ad;go_wp2;go_ret;exact⟨by rw[I.out,y.out,abj,a0,Bool.and_false];rfl,d⟩
end Go.Proofs.YtpekhdfmmkmjaaaGreatDoor
