/- Texts of the proof, put together. -/
import Derived.Laws.BitsAllLaws
import Derived.Test.YtpekhdfmmkmjaaaGreatDoorG10
namespace Go.Proofs.YtpekhdfmmkmjaaaGreatDoor
set_option maxHeartbeats 4000000
set_option maxRecDepth 100000
set_option linter.unusedVariables false
open Go.Proofs.Tryz
open Go.ChangeShapes Go.WideShapes Go.ChangeAt Go.RowKit
theorem av3(B g:Nat)(Q vo vi:Value)(X:Ds)(an z:Int)(d:ByteArray)(w:ω)(hL:ju w)(hs:d.size<=1000000)(U:lk B g w Q vo vi X)(bk:X.env.length<=1000)(b1:X.Fit)(b2:X.out.length<=1000)(n:Int)(hv:aac d X.env=.ok 1 n) :
 Calls prog 215 #[φ g 0,tc ⟨3,an,z,d⟩] w (kf B g (doK ⟨3,an,z,d⟩ n X).isSome ((doK ⟨3,an,z,d⟩ n X).getD X) w):=by
 have a2:=aa (λ(W:ω)(h:κ w W)=>(zw d Q X.env W (hL.after h) hs (U.env.nums.below h) bk b1).mono (λe w' h=>we h));have bs:sb (fi d.data.toList) X.env=.ok 1 n:=hv;rw[bs]at a2;have b6:=λW=>abm W;have F:=aa (U.below (ap w (fk ⟨3,an,z,d⟩)));have J:=aa (cg.new w 92 #[ι 3,ι an,ι z,.string d]);have a4:=aa ((ag B w).alloc U.lt (fk ⟨3,an,z,d⟩));have bf:=aa (ap w (fk ⟨3,an,z,d⟩)).drew;have bb:=aa U.lt;obtain⟨⟨c0,c1,c2⟩,f0,f1,f2⟩:=F.blk.ax;obtain⟨⟨q0,q1,q2,q3⟩,_⟩:=J.four;have ba:=aa (λ(W:ω)(hd:lk B g W Q vo vi X)=>afe B g Q vo vi X ⟨3,an,z,d⟩ n W hd bk b2 (by simp));generalize (doK ⟨3,an,z,d⟩ n X).isSome=rr at *;generalize (doK ⟨3,an,z,d⟩ n X).getD X=Y at *;clear hL hs U hv bs;go_enter func215,ntmps215;go_wp2_with fail;refine cr (λW=>W.cell? (δ w.heap.size 3)=some (.string d)/\W.cell? (δ g 0)=some Q) [11] ?_;refine af 0 (φ w.heap.size 3) ?_;refine a7 1 (.string d) (⟨q3,c0⟩) ?_;refine af 2 (φ g 0) ?_;refine af 3 (φ g 0) ?_;refine af 4 (φ g 0) ?_;refine a7 5 Q (⟨q3,c0⟩) ?_;try simp only[Act.put,sx]
 refine t8 6 10 (λK y=>?orderA) (λK y=>?orderB)
 case' orderA =>
  go_simp;refine(a2 _ bf).mono ?_;rintro e w2⟨E,I⟩;have I:e=.returned (.tuple #[.agg #[ι 1,ι n],.nilIface]):=I;subst I;have ad:=aa (F.drew.below E);have av:=aa (J.drew.below E J.lt);have bt:=aa (a4.drew.trans (E.mono F.drew.lt));clear E;go_simp;refine y _ _ (λ_ hS=>⟨av.four.1.2.2.2,ad.blk.ax.1.1⟩) ?_;try simp only[Act.put,sx]
  refine af 7 (.tuple #[.agg #[ι 1,ι n],.nilIface]) ?_;refine af 8 (.agg #[ι 1,ι n]) ?_;refine af 9 .nilIface ?_;try simp only[Act.put,sx]
  refine a8 10 (λK y=>?_);go_simp;refine y _ _ (λ_ hS=>⟨(av.alloc (.cells #[ι 0,ι 0] 239)).four.1.2.2.2,(ad.blk.alloc (.cells #[ι 0,ι 0] 239)).ax.1.1⟩) ?_;try simp only[Act.put,sx]
  refine a8 11 (λK y=>?_);go_simp;refine y _ _ (λh=>absurd h (by decide)) ?_;try simp only[Act.put,sx]
  refine af 12 .nilIface ?_;try simp only[Act.put,sx]
  refine ce ?_;have a3:=aa (cg.new w2 239 #[ι 1,ι n]);have a1:=aa (ad.below (ap w2 (.cells #[ι 1,ι n] 239)));have ax:=aa (bt.alloc ad.lt (.cells #[ι 1,ι n] 239));have ak:=aa (av.alloc (.cells #[ι 1,ι n] 239));obtain⟨⟨y0,y1⟩,_⟩:=a3.eb;obtain⟨⟨z0,z1,z2,z3⟩,_⟩:=ak.four;go_wp2_with fail;refine(ba _ a1).mono ?_;rintro e w4⟨rfl,V,b3,b5,b4,Z⟩;have al:=aa (ax.trans V);have a0:=aa Z;clear V Z;go_wp2;go_ret;exact .of rfl rfl al a0
 case' orderB =>
  go_simp;refine y _ _ (λ_ hS=>⟨J.drew.alloc (.cells #[ι 0,ι 0] 239) |>.four.1.2.2.2,F.drew.blk.alloc (.cells #[ι 0,ι 0] 239) |>.ax.1.1⟩) ?_;try simp only[Act.put,sx]
  refine a8 6 (λK y=>?_);go_simp;refine(a2 _ (bf.alloc (by simp) (.cells #[ι 0,ι 0] 239))).mono ?_;rintro e w2⟨E,I⟩;have I:e=.returned (.tuple #[.agg #[ι 1,ι n],.nilIface]):=I;subst I;have O:=aa ((cg.dy (w.alloc (fk ⟨3,an,z,d⟩)) 239 #[ι 0,ι 0] (w.heap.size+1) (by simp)).drew.below E (by simp));have a9:=aa ((F.below (ap _ (.cells #[ι 0,ι 0] 239))).drew.below E);have a5:=aa ((J.alloc (.cells #[ι 0,ι 0] 239)).drew.below E (J.alloc (.cells #[ι 0,ι 0] 239)).lt);have b0:=aa ((a4.alloc F.lt (.cells #[ι 0,ι 0] 239)).drew.trans (E.mono (F.below (ap _ (.cells #[ι 0,ι 0] 239))).drew.lt));clear E;go_simp;refine y _ _ (λ_ hS=>⟨a5.four.1.2.2.2,a9.blk.ax.1.1⟩) ?_;try simp only[Act.put,sx]
  refine af 7 (.tuple #[.agg #[ι 1,ι n],.nilIface]) ?_;refine af 8 (.agg #[ι 1,ι n]) ?_;refine af 9 .nilIface ?_;try simp only[Act.put,sx]
  obtain⟨⟨v0,v1⟩,v2,v3⟩:=O.eb;refine a8 11 (λK y=>?_);go_simp;refine y _ _ (λh=>absurd h (by decide)) ?_;try simp only[Act.put,sx]
  refine af 12 .nilIface ?_;try simp only[Act.put,sx]
  refine ce ?_;have a3:=aa (O.set2 (ι 1) (ι n));have a1:=aa ((a9.m2 O 0 (ι 1) (by decide) (by decide) (by decide) (by decide)).m2 (O.ca 0 _) 1 (ι n) (by decide) (by decide) (by decide) (by decide));have ax:=aa ((b0.setCell (p:=(δ (w.heap.size+1) 0)) (dn bb) (ι 1)).setCell (p:=(δ (w.heap.size+1) 1)) (dn bb) (ι n));have ak:=aa (iu (iu a5 O (by decide) 0 (ι 1)) (O.ca 0 _) (by decide) 1 (ι n));obtain⟨⟨y0,y1⟩,_⟩:=a3.eb;obtain⟨⟨z0,z1,z2,z3⟩,_⟩:=ak.four;go_wp2_with fail;refine(ba _ a1).mono ?_;rintro e w4⟨rfl,V,b3,b5,b4,Z⟩;have al:=aa (ax.trans V);have a0:=aa Z;clear V Z;go_wp2;go_ret;exact .of rfl rfl al a0
theorem atc(B g:Nat)(V vo vi:Value)(X:Ds)(an O:Int)(d:ByteArray)(w:ω)(hL:ju w)(hs:d.size<=1000000)(Q:lk B g w V vo vi X)(bb:X.env.length<=1000)(ba:X.Fit)(bk:X.out.length<=1000)(k n:Int)(hk:¬k=1)(hv:aac d X.env=.ok k n) :
 Calls prog 215 #[φ g 0,tc ⟨3,an,O,d⟩] w (kf B g false X w):=by
 have al:=aa (λ(W:ω)(h:κ w W)=>(zw d V X.env W (hL.after h) hs (Q.env.nums.below h) bb ba).mono (λe w' h=>we h));have a4:sb (fi d.data.toList) X.env=.ok k n:=hv;rw[a4]at al;have bf:=λW=>abm W;have E:=aa (Q.below (ap w (fk ⟨3,an,O,d⟩)));have I:=aa (cg.new w 92 #[ι 3,ι an,ι O,.string d]);have ax:=aa ((ag B w).alloc Q.lt (fk ⟨3,an,O,d⟩));have a3:=aa (ap w (fk ⟨3,an,O,d⟩)).drew;have a2:=aa Q.lt;obtain⟨⟨c0,c1,c2⟩,f0,f1,f2⟩:=E.blk.ax;obtain⟨⟨q0,q1,q2,q3⟩,_⟩:=I.four;have ek:(k==1)=false:=by simpa using hk
 clear hL hs Q hv a4 hk;go_enter func215,ntmps215;go_wp2_with fail;refine cr (λW=>W.cell? (δ w.heap.size 3)=some (.string d)/\W.cell? (δ g 0)=some V) [11] ?_;refine af 0 (φ w.heap.size 3) ?_;refine a7 1 (.string d) (⟨q3,c0⟩) ?_;refine af 2 (φ g 0) ?_;refine af 3 (φ g 0) ?_;refine af 4 (φ g 0) ?_;refine a7 5 V (⟨q3,c0⟩) ?_;try simp only[Act.put,sx]
 refine t8 6 10 (λK y=>?orderA) (λK y=>?orderB)
 case' orderA =>
  go_simp;refine(al _ a3).mono ?_;rintro e w2⟨z,F⟩;have F:e=.returned (.tuple #[.agg #[ι k,ι n],.nilIface]):=F;subst F;have U:=aa (E.drew.below z);have Z:=aa (I.drew.below z I.lt);have a5:=aa (ax.drew.trans (z.mono E.drew.lt));clear z;go_simp;refine y _ _ (λ_ hS=>⟨Z.four.1.2.2.2,U.blk.ax.1.1⟩) ?_;try simp only[Act.put,sx]
  refine af 7 (.tuple #[.agg #[ι k,ι n],.nilIface]) ?_;refine af 8 (.agg #[ι k,ι n]) ?_;refine af 9 .nilIface ?_;try simp only[Act.put,sx]
  refine a8 10 (λK y=>?_);go_simp;refine y _ _ (λ_ hS=>⟨(Z.alloc (.cells #[ι 0,ι 0] 239)).four.1.2.2.2,(U.blk.alloc (.cells #[ι 0,ι 0] 239)).ax.1.1⟩) ?_;try simp only[Act.put,sx]
  refine a8 11 (λK y=>?_);go_simp;refine y _ _ (λh=>absurd h (by decide)) ?_;try simp only[Act.put,sx]
  refine af 12 .nilIface ?_;try simp only[Act.put,sx]
  refine ce ?_;have av:=aa (cg.new w2 239 #[ι k,ι n]);have ak:=aa (U.below (ap w2 (.cells #[ι k,ι n] 239)));have ad:=aa (a5.alloc U.lt (.cells #[ι k,ι n] 239));have Y:=aa (Z.alloc (.cells #[ι k,ι n] 239));obtain⟨⟨y0,y1⟩,_⟩:=av.eb;obtain⟨⟨z0,z1,z2,z3⟩,_⟩:=Y.four;go_wp2;go_ret;exact .of rfl rfl ad ak
 case' orderB =>
  go_simp;refine y _ _ (λ_ hS=>⟨I.drew.alloc (.cells #[ι 0,ι 0] 239) |>.four.1.2.2.2,E.drew.blk.alloc (.cells #[ι 0,ι 0] 239) |>.ax.1.1⟩) ?_;try simp only[Act.put,sx]
  refine a8 6 (λK y=>?_);go_simp;refine(al _ (a3.alloc (by simp) (.cells #[ι 0,ι 0] 239))).mono ?_;rintro e w2⟨z,F⟩;have F:e=.returned (.tuple #[.agg #[ι k,ι n],.nilIface]):=F;subst F;have J:=aa ((cg.dy (w.alloc (fk ⟨3,an,O,d⟩)) 239 #[ι 0,ι 0] (w.heap.size+1) (by simp)).drew.below z (by simp));have a1:=aa ((E.below (ap _ (.cells #[ι 0,ι 0] 239))).drew.below z);have a0:=aa ((I.alloc (.cells #[ι 0,ι 0] 239)).drew.below z (I.alloc (.cells #[ι 0,ι 0] 239)).lt);have a9:=aa ((ax.alloc E.lt (.cells #[ι 0,ι 0] 239)).drew.trans (z.mono (E.below (ap _ (.cells #[ι 0,ι 0] 239))).drew.lt));clear z;go_simp;refine y _ _ (λ_ hS=>⟨a0.four.1.2.2.2,a1.blk.ax.1.1⟩) ?_;try simp only[Act.put,sx]
  refine af 7 (.tuple #[.agg #[ι k,ι n],.nilIface]) ?_;refine af 8 (.agg #[ι k,ι n]) ?_;refine af 9 .nilIface ?_;try simp only[Act.put,sx]
  obtain⟨⟨v0,v1⟩,v2,v3⟩:=J.eb;refine a8 11 (λK y=>?_);go_simp;refine y _ _ (λh=>absurd h (by decide)) ?_;try simp only[Act.put,sx]
  refine af 12 .nilIface ?_;try simp only[Act.put,sx]
  refine ce ?_;have av:=aa (J.set2 (ι k) (ι n));have ak:=aa ((a1.m2 J 0 (ι k) (by decide) (by decide) (by decide) (by decide)).m2 (J.ca 0 _) 1 (ι n) (by decide) (by decide) (by decide) (by decide));have ad:=aa ((a9.setCell (p:=(δ (w.heap.size+1) 0)) (dn a2) (ι k)).setCell (p:=(δ (w.heap.size+1) 1)) (dn a2) (ι n));have Y:=aa (iu (iu a0 J (by decide) 0 (ι k)) (J.ca 0 _) (by decide) 1 (ι n));obtain⟨⟨y0,y1⟩,_⟩:=av.eb;obtain⟨⟨z0,z1,z2,z3⟩,_⟩:=Y.four;go_wp2;go_ret;exact .of rfl rfl ad ak
theorem atd(B g:Nat)(V vo vi:Value)(X:Ds)(an O:Int)(d:ByteArray)(w:ω)(hL:ju w)(hs:d.size<=1000000)(Q:lk B g w V vo vi X)(bb:X.env.length<=1000)(ba:X.Fit)(bs:X.out.length<=1000)(c:Int)(hv:aac d X.env=.bad c) :
 Calls prog 215 #[φ g 0,tc ⟨3,an,O,d⟩] w (kf B g false X w):=by
 have al:=aa (λ(W:ω)(h:κ w W)=>(zw d V X.env W (hL.after h) hs (Q.env.nums.below h) bb ba).mono (λe w' h=>we h));have a4:sb (fi d.data.toList) X.env=.bad c:=hv;rw[a4]at al;have bk:=λW=>abm W;have E:=aa (Q.below (ap w (fk ⟨3,an,O,d⟩)));have I:=aa (cg.new w 92 #[ι 3,ι an,ι O,.string d]);have ax:=aa ((ag B w).alloc Q.lt (fk ⟨3,an,O,d⟩));have a3:=aa (ap w (fk ⟨3,an,O,d⟩)).drew;have a2:=aa Q.lt;obtain⟨⟨c0,c1,c2⟩,f0,f1,f2⟩:=E.blk.ax;obtain⟨⟨q0,q1,q2,q3⟩,_⟩:=I.four;clear hL hs Q hv a4;go_enter func215,ntmps215;go_wp2_with fail;refine cr (λW=>W.cell? (δ w.heap.size 3)=some (.string d)/\W.cell? (δ g 0)=some V) [11] ?_;refine af 0 (φ w.heap.size 3) ?_;refine a7 1 (.string d) (⟨q3,c0⟩) ?_;refine af 2 (φ g 0) ?_;refine af 3 (φ g 0) ?_;refine af 4 (φ g 0) ?_;refine a7 5 V (⟨q3,c0⟩) ?_;try simp only[Act.put,sx]
 refine t8 6 10 (λK y=>?orderA) (λK y=>?orderB)
 case' orderA =>
  go_simp;refine(al _ a3).mono ?_;rintro e w2⟨z,t,p,F,bf⟩;have F:e=.returned (.tuple #[.agg #[ι 0,ι 0],.iface t p]):=F;subst F;have U:=aa (E.drew.below z);have Z:=aa (I.drew.below z I.lt);have a5:=aa (ax.drew.trans (z.mono E.drew.lt));clear z;go_simp;refine y _ _ (λ_ hS=>⟨Z.four.1.2.2.2,U.blk.ax.1.1⟩) ?_;try simp only[Act.put,sx]
  refine af 7 (.tuple #[.agg #[ι 0,ι 0],.iface t p]) ?_;refine af 8 (.agg #[ι 0,ι 0]) ?_;refine af 9 (.iface t p) ?_;try simp only[Act.put,sx]
  refine a8 10 (λK y=>?_);go_simp;refine y _ _ (λ_ hS=>⟨(Z.alloc (.cells #[ι 0,ι 0] 239)).four.1.2.2.2,(U.blk.alloc (.cells #[ι 0,ι 0] 239)).ax.1.1⟩) ?_;try simp only[Act.put,sx]
  refine a8 11 (λK y=>?_);go_simp;refine y _ _ (λh=>absurd h (by decide)) ?_;try simp only[Act.put,sx]
  refine af 12 (.iface t p) ?_;try simp only[Act.put,sx]
  refine ce ?_;have av:=aa (cg.new w2 239 #[ι 0,ι 0]);have ak:=aa (U.below (ap w2 (.cells #[ι 0,ι 0] 239)));have ad:=aa (a5.alloc U.lt (.cells #[ι 0,ι 0] 239));have Y:=aa (Z.alloc (.cells #[ι 0,ι 0] 239));obtain⟨⟨y0,y1⟩,_⟩:=av.eb;obtain⟨⟨z0,z1,z2,z3⟩,_⟩:=Y.four;go_wp2;go_ret;exact .of rfl rfl ad ak
 case' orderB =>
  go_simp;refine y _ _ (λ_ hS=>⟨I.drew.alloc (.cells #[ι 0,ι 0] 239) |>.four.1.2.2.2,E.drew.blk.alloc (.cells #[ι 0,ι 0] 239) |>.ax.1.1⟩) ?_;try simp only[Act.put,sx]
  refine a8 6 (λK y=>?_);go_simp;refine(al _ (a3.alloc (by simp) (.cells #[ι 0,ι 0] 239))).mono ?_;rintro e w2⟨z,t,p,F,bf⟩;have F:e=.returned (.tuple #[.agg #[ι 0,ι 0],.iface t p]):=F;subst F;have J:=aa ((cg.dy (w.alloc (fk ⟨3,an,O,d⟩)) 239 #[ι 0,ι 0] (w.heap.size+1) (by simp)).drew.below z (by simp));have a1:=aa ((E.below (ap _ (.cells #[ι 0,ι 0] 239))).drew.below z);have a0:=aa ((I.alloc (.cells #[ι 0,ι 0] 239)).drew.below z (I.alloc (.cells #[ι 0,ι 0] 239)).lt);have a9:=aa ((ax.alloc E.lt (.cells #[ι 0,ι 0] 239)).drew.trans (z.mono (E.below (ap _ (.cells #[ι 0,ι 0] 239))).drew.lt));clear z;go_simp;refine y _ _ (λ_ hS=>⟨a0.four.1.2.2.2,a1.blk.ax.1.1⟩) ?_;try simp only[Act.put,sx]
  refine af 7 (.tuple #[.agg #[ι 0,ι 0],.iface t p]) ?_;refine af 8 (.agg #[ι 0,ι 0]) ?_;refine af 9 (.iface t p) ?_;try simp only[Act.put,sx]
  obtain⟨⟨v0,v1⟩,v2,v3⟩:=J.eb;refine a8 11 (λK y=>?_);go_simp;refine y _ _ (λh=>absurd h (by decide)) ?_;try simp only[Act.put,sx]
  refine af 12 (.iface t p) ?_;try simp only[Act.put,sx]
  refine ce ?_;have av:=aa (J.set2 (ι 0) (ι 0));have ak:=aa ((a1.m2 J 0 (ι 0) (by decide) (by decide) (by decide) (by decide)).m2 (J.ca 0 _) 1 (ι 0) (by decide) (by decide) (by decide) (by decide));have ad:=aa ((a9.setCell (p:=(δ (w.heap.size+1) 0)) (dn a2) (ι 0)).setCell (p:=(δ (w.heap.size+1) 1)) (dn a2) (ι 0));have Y:=aa (iu (iu a0 J (by decide) 0 (ι 0)) (J.ca 0 _) (by decide) 1 (ι 0));obtain⟨⟨y0,y1⟩,_⟩:=av.eb;obtain⟨⟨z0,z1,z2,z3⟩,_⟩:=Y.four;go_wp2;go_ret;exact .of rfl rfl ad ak
theorem av2(B g:Nat)(Q vo vi:Value)(X:Ds)(an z:Int)(d:ByteArray)(w:ω)(hL:ju w)(hs:d.size<=1000000)(U:lk B g w Q vo vi X)(bk:X.env.length<=1000)(b1:X.Fit)(b2:X.out.length<=1000)(n:Int)(hv:aac d X.env=.ok 1 n) :
 Calls prog 215 #[φ g 0,tc ⟨5,an,z,d⟩] w (kf B g (doK ⟨5,an,z,d⟩ n X).isSome ((doK ⟨5,an,z,d⟩ n X).getD X) w):=by
 have a2:=aa (λ(W:ω)(h:κ w W)=>(zw d Q X.env W (hL.after h) hs (U.env.nums.below h) bk b1).mono (λe w' h=>we h));have bs:sb (fi d.data.toList) X.env=.ok 1 n:=hv;rw[bs]at a2;have b6:=λW=>abm W;have F:=aa (U.below (ap w (fk ⟨5,an,z,d⟩)));have J:=aa (cg.new w 92 #[ι 5,ι an,ι z,.string d]);have a4:=aa ((ag B w).alloc U.lt (fk ⟨5,an,z,d⟩));have bf:=aa (ap w (fk ⟨5,an,z,d⟩)).drew;have bb:=aa U.lt;obtain⟨⟨c0,c1,c2⟩,f0,f1,f2⟩:=F.blk.ax;obtain⟨⟨q0,q1,q2,q3⟩,_⟩:=J.four;have ba:=aa (λ(W:ω)(hd:lk B g W Q vo vi X)=>afe B g Q vo vi X ⟨5,an,z,d⟩ n W hd bk b2 (by simp));generalize (doK ⟨5,an,z,d⟩ n X).isSome=rr at *;generalize (doK ⟨5,an,z,d⟩ n X).getD X=Y at *;clear hL hs U hv bs;go_enter func215,ntmps215;go_wp2_with fail;refine cr (λW=>W.cell? (δ w.heap.size 3)=some (.string d)/\W.cell? (δ g 0)=some Q) [11] ?_;refine af 0 (φ w.heap.size 3) ?_;refine a7 1 (.string d) (⟨q3,c0⟩) ?_;refine af 2 (φ g 0) ?_;refine af 3 (φ g 0) ?_;refine af 4 (φ g 0) ?_;refine a7 5 Q (⟨q3,c0⟩) ?_;try simp only[Act.put,sx]
 refine t8 6 10 (λK y=>?orderA) (λK y=>?orderB)
 case' orderA =>
  go_simp;refine(a2 _ bf).mono ?_;rintro e w2⟨E,I⟩;have I:e=.returned (.tuple #[.agg #[ι 1,ι n],.nilIface]):=I;subst I;have ad:=aa (F.drew.below E);have av:=aa (J.drew.below E J.lt);have bt:=aa (a4.drew.trans (E.mono F.drew.lt));clear E;go_simp;refine y _ _ (λ_ hS=>⟨av.four.1.2.2.2,ad.blk.ax.1.1⟩) ?_;try simp only[Act.put,sx]
  refine af 7 (.tuple #[.agg #[ι 1,ι n],.nilIface]) ?_;refine af 8 (.agg #[ι 1,ι n]) ?_;refine af 9 .nilIface ?_;try simp only[Act.put,sx]
  refine a8 10 (λK y=>?_);go_simp;refine y _ _ (λ_ hS=>⟨(av.alloc (.cells #[ι 0,ι 0] 239)).four.1.2.2.2,(ad.blk.alloc (.cells #[ι 0,ι 0] 239)).ax.1.1⟩) ?_;try simp only[Act.put,sx]
  refine a8 11 (λK y=>?_);go_simp;refine y _ _ (λh=>absurd h (by decide)) ?_;try simp only[Act.put,sx]
  refine af 12 .nilIface ?_;try simp only[Act.put,sx]
  refine ce ?_;have a3:=aa (cg.new w2 239 #[ι 1,ι n]);have a1:=aa (ad.below (ap w2 (.cells #[ι 1,ι n] 239)));have ax:=aa (bt.alloc ad.lt (.cells #[ι 1,ι n] 239));have ak:=aa (av.alloc (.cells #[ι 1,ι n] 239));obtain⟨⟨y0,y1⟩,_⟩:=a3.eb;obtain⟨⟨z0,z1,z2,z3⟩,_⟩:=ak.four;go_wp2_with fail;refine(ba _ a1).mono ?_;rintro e w4⟨rfl,V,b3,b5,b4,Z⟩;have al:=aa (ax.trans V);have a0:=aa Z;clear V Z;go_wp2;go_ret;exact .of rfl rfl al a0
 case' orderB =>
  go_simp;refine y _ _ (λ_ hS=>⟨J.drew.alloc (.cells #[ι 0,ι 0] 239) |>.four.1.2.2.2,F.drew.blk.alloc (.cells #[ι 0,ι 0] 239) |>.ax.1.1⟩) ?_;try simp only[Act.put,sx]
  refine a8 6 (λK y=>?_);go_simp;refine(a2 _ (bf.alloc (by simp) (.cells #[ι 0,ι 0] 239))).mono ?_;rintro e w2⟨E,I⟩;have I:e=.returned (.tuple #[.agg #[ι 1,ι n],.nilIface]):=I;subst I;have O:=aa ((cg.dy (w.alloc (fk ⟨5,an,z,d⟩)) 239 #[ι 0,ι 0] (w.heap.size+1) (by simp)).drew.below E (by simp));have a9:=aa ((F.below (ap _ (.cells #[ι 0,ι 0] 239))).drew.below E);have a5:=aa ((J.alloc (.cells #[ι 0,ι 0] 239)).drew.below E (J.alloc (.cells #[ι 0,ι 0] 239)).lt);have b0:=aa ((a4.alloc F.lt (.cells #[ι 0,ι 0] 239)).drew.trans (E.mono (F.below (ap _ (.cells #[ι 0,ι 0] 239))).drew.lt));clear E;go_simp;refine y _ _ (λ_ hS=>⟨a5.four.1.2.2.2,a9.blk.ax.1.1⟩) ?_;try simp only[Act.put,sx]
  refine af 7 (.tuple #[.agg #[ι 1,ι n],.nilIface]) ?_;refine af 8 (.agg #[ι 1,ι n]) ?_;refine af 9 .nilIface ?_;try simp only[Act.put,sx]
  obtain⟨⟨v0,v1⟩,v2,v3⟩:=O.eb;refine a8 11 (λK y=>?_);go_simp;refine y _ _ (λh=>absurd h (by decide)) ?_;try simp only[Act.put,sx]
  refine af 12 .nilIface ?_;try simp only[Act.put,sx]
  refine ce ?_;have a3:=aa (O.set2 (ι 1) (ι n));have a1:=aa ((a9.m2 O 0 (ι 1) (by decide) (by decide) (by decide) (by decide)).m2 (O.ca 0 _) 1 (ι n) (by decide) (by decide) (by decide) (by decide));have ax:=aa ((b0.setCell (p:=(δ (w.heap.size+1) 0)) (dn bb) (ι 1)).setCell (p:=(δ (w.heap.size+1) 1)) (dn bb) (ι n));have ak:=aa (iu (iu a5 O (by decide) 0 (ι 1)) (O.ca 0 _) (by decide) 1 (ι n));obtain⟨⟨y0,y1⟩,_⟩:=a3.eb;obtain⟨⟨z0,z1,z2,z3⟩,_⟩:=ak.four;go_wp2_with fail;refine(ba _ a1).mono ?_;rintro e w4⟨rfl,V,b3,b5,b4,Z⟩;have al:=aa (ax.trans V);have a0:=aa Z;clear V Z;go_wp2;go_ret;exact .of rfl rfl al a0
theorem ata(B g:Nat)(V vo vi:Value)(X:Ds)(an O:Int)(d:ByteArray)(w:ω)(hL:ju w)(hs:d.size<=1000000)(Q:lk B g w V vo vi X)(bb:X.env.length<=1000)(ba:X.Fit)(bk:X.out.length<=1000)(k n:Int)(hk:¬k=1)(hv:aac d X.env=.ok k n) :
 Calls prog 215 #[φ g 0,tc ⟨5,an,O,d⟩] w (kf B g false X w):=by
 have al:=aa (λ(W:ω)(h:κ w W)=>(zw d V X.env W (hL.after h) hs (Q.env.nums.below h) bb ba).mono (λe w' h=>we h));have a4:sb (fi d.data.toList) X.env=.ok k n:=hv;rw[a4]at al;have bf:=λW=>abm W;have E:=aa (Q.below (ap w (fk ⟨5,an,O,d⟩)));have I:=aa (cg.new w 92 #[ι 5,ι an,ι O,.string d]);have ax:=aa ((ag B w).alloc Q.lt (fk ⟨5,an,O,d⟩));have a3:=aa (ap w (fk ⟨5,an,O,d⟩)).drew;have a2:=aa Q.lt;obtain⟨⟨c0,c1,c2⟩,f0,f1,f2⟩:=E.blk.ax;obtain⟨⟨q0,q1,q2,q3⟩,_⟩:=I.four;have ek:(k==1)=false:=by simpa using hk
 clear hL hs Q hv a4 hk;go_enter func215,ntmps215;go_wp2_with fail;refine cr (λW=>W.cell? (δ w.heap.size 3)=some (.string d)/\W.cell? (δ g 0)=some V) [11] ?_;refine af 0 (φ w.heap.size 3) ?_;refine a7 1 (.string d) (⟨q3,c0⟩) ?_;refine af 2 (φ g 0) ?_;refine af 3 (φ g 0) ?_;refine af 4 (φ g 0) ?_;refine a7 5 V (⟨q3,c0⟩) ?_;try simp only[Act.put,sx]
 refine t8 6 10 (λK y=>?orderA) (λK y=>?orderB)
 case' orderA =>
  go_simp;refine(al _ a3).mono ?_;rintro e w2⟨z,F⟩;have F:e=.returned (.tuple #[.agg #[ι k,ι n],.nilIface]):=F;subst F;have U:=aa (E.drew.below z);have Z:=aa (I.drew.below z I.lt);have a5:=aa (ax.drew.trans (z.mono E.drew.lt));clear z;go_simp;refine y _ _ (λ_ hS=>⟨Z.four.1.2.2.2,U.blk.ax.1.1⟩) ?_;try simp only[Act.put,sx]
  refine af 7 (.tuple #[.agg #[ι k,ι n],.nilIface]) ?_;refine af 8 (.agg #[ι k,ι n]) ?_;refine af 9 .nilIface ?_;try simp only[Act.put,sx]
  refine a8 10 (λK y=>?_);go_simp;refine y _ _ (λ_ hS=>⟨(Z.alloc (.cells #[ι 0,ι 0] 239)).four.1.2.2.2,(U.blk.alloc (.cells #[ι 0,ι 0] 239)).ax.1.1⟩) ?_;try simp only[Act.put,sx]
  refine a8 11 (λK y=>?_);go_simp;refine y _ _ (λh=>absurd h (by decide)) ?_;try simp only[Act.put,sx]
  refine af 12 .nilIface ?_;try simp only[Act.put,sx]
  refine ce ?_;have av:=aa (cg.new w2 239 #[ι k,ι n]);have ak:=aa (U.below (ap w2 (.cells #[ι k,ι n] 239)));have ad:=aa (a5.alloc U.lt (.cells #[ι k,ι n] 239));have Y:=aa (Z.alloc (.cells #[ι k,ι n] 239));obtain⟨⟨y0,y1⟩,_⟩:=av.eb;obtain⟨⟨z0,z1,z2,z3⟩,_⟩:=Y.four;go_wp2;go_ret;exact .of rfl rfl ad ak
 case' orderB =>
  go_simp;refine y _ _ (λ_ hS=>⟨I.drew.alloc (.cells #[ι 0,ι 0] 239) |>.four.1.2.2.2,E.drew.blk.alloc (.cells #[ι 0,ι 0] 239) |>.ax.1.1⟩) ?_;try simp only[Act.put,sx]
  refine a8 6 (λK y=>?_);go_simp;refine(al _ (a3.alloc (by simp) (.cells #[ι 0,ι 0] 239))).mono ?_;rintro e w2⟨z,F⟩;have F:e=.returned (.tuple #[.agg #[ι k,ι n],.nilIface]):=F;subst F;have J:=aa ((cg.dy (w.alloc (fk ⟨5,an,O,d⟩)) 239 #[ι 0,ι 0] (w.heap.size+1) (by simp)).drew.below z (by simp));have a1:=aa ((E.below (ap _ (.cells #[ι 0,ι 0] 239))).drew.below z);have a0:=aa ((I.alloc (.cells #[ι 0,ι 0] 239)).drew.below z (I.alloc (.cells #[ι 0,ι 0] 239)).lt);have a9:=aa ((ax.alloc E.lt (.cells #[ι 0,ι 0] 239)).drew.trans (z.mono (E.below (ap _ (.cells #[ι 0,ι 0] 239))).drew.lt));clear z;go_simp;refine y _ _ (λ_ hS=>⟨a0.four.1.2.2.2,a1.blk.ax.1.1⟩) ?_;try simp only[Act.put,sx]
  refine af 7 (.tuple #[.agg #[ι k,ι n],.nilIface]) ?_;refine af 8 (.agg #[ι k,ι n]) ?_;refine af 9 .nilIface ?_;try simp only[Act.put,sx]
  obtain⟨⟨v0,v1⟩,v2,v3⟩:=J.eb;refine a8 11 (λK y=>?_);go_simp;refine y _ _ (λh=>absurd h (by decide)) ?_;try simp only[Act.put,sx]
  refine af 12 .nilIface ?_;try simp only[Act.put,sx]
  refine ce ?_;have av:=aa (J.set2 (ι k) (ι n));have ak:=aa ((a1.m2 J 0 (ι k) (by decide) (by decide) (by decide) (by decide)).m2 (J.ca 0 _) 1 (ι n) (by decide) (by decide) (by decide) (by decide));have ad:=aa ((a9.setCell (p:=(δ (w.heap.size+1) 0)) (dn a2) (ι k)).setCell (p:=(δ (w.heap.size+1) 1)) (dn a2) (ι n));have Y:=aa (iu (iu a0 J (by decide) 0 (ι k)) (J.ca 0 _) (by decide) 1 (ι n));obtain⟨⟨y0,y1⟩,_⟩:=av.eb;obtain⟨⟨z0,z1,z2,z3⟩,_⟩:=Y.four;go_wp2;go_ret;exact .of rfl rfl ad ak
theorem atb(B g:Nat)(V vo vi:Value)(X:Ds)(an O:Int)(d:ByteArray)(w:ω)(hL:ju w)(hs:d.size<=1000000)(Q:lk B g w V vo vi X)(bb:X.env.length<=1000)(ba:X.Fit)(bs:X.out.length<=1000)(c:Int)(hv:aac d X.env=.bad c) :
 Calls prog 215 #[φ g 0,tc ⟨5,an,O,d⟩] w (kf B g false X w):=by
 have al:=aa (λ(W:ω)(h:κ w W)=>(zw d V X.env W (hL.after h) hs (Q.env.nums.below h) bb ba).mono (λe w' h=>we h));have a4:sb (fi d.data.toList) X.env=.bad c:=hv;rw[a4]at al;have bk:=λW=>abm W;have E:=aa (Q.below (ap w (fk ⟨5,an,O,d⟩)));have I:=aa (cg.new w 92 #[ι 5,ι an,ι O,.string d]);have ax:=aa ((ag B w).alloc Q.lt (fk ⟨5,an,O,d⟩));have a3:=aa (ap w (fk ⟨5,an,O,d⟩)).drew;have a2:=aa Q.lt;obtain⟨⟨c0,c1,c2⟩,f0,f1,f2⟩:=E.blk.ax;obtain⟨⟨q0,q1,q2,q3⟩,_⟩:=I.four;clear hL hs Q hv a4;go_enter func215,ntmps215;go_wp2_with fail;refine cr (λW=>W.cell? (δ w.heap.size 3)=some (.string d)/\W.cell? (δ g 0)=some V) [11] ?_;refine af 0 (φ w.heap.size 3) ?_;refine a7 1 (.string d) (⟨q3,c0⟩) ?_;refine af 2 (φ g 0) ?_;refine af 3 (φ g 0) ?_;refine af 4 (φ g 0) ?_;refine a7 5 V (⟨q3,c0⟩) ?_;try simp only[Act.put,sx]
 refine t8 6 10 (λK y=>?orderA) (λK y=>?orderB)
 case' orderA =>
  go_simp;refine(al _ a3).mono ?_;rintro e w2⟨z,t,p,F,bf⟩;have F:e=.returned (.tuple #[.agg #[ι 0,ι 0],.iface t p]):=F;subst F;have U:=aa (E.drew.below z);have Z:=aa (I.drew.below z I.lt);have a5:=aa (ax.drew.trans (z.mono E.drew.lt));clear z;go_simp;refine y _ _ (λ_ hS=>⟨Z.four.1.2.2.2,U.blk.ax.1.1⟩) ?_;try simp only[Act.put,sx]
  refine af 7 (.tuple #[.agg #[ι 0,ι 0],.iface t p]) ?_;refine af 8 (.agg #[ι 0,ι 0]) ?_;refine af 9 (.iface t p) ?_;try simp only[Act.put,sx]
  refine a8 10 (λK y=>?_);go_simp;refine y _ _ (λ_ hS=>⟨(Z.alloc (.cells #[ι 0,ι 0] 239)).four.1.2.2.2,(U.blk.alloc (.cells #[ι 0,ι 0] 239)).ax.1.1⟩) ?_;try simp only[Act.put,sx]
  refine a8 11 (λK y=>?_);go_simp;refine y _ _ (λh=>absurd h (by decide)) ?_;try simp only[Act.put,sx]
  refine af 12 (.iface t p) ?_;try simp only[Act.put,sx]
  refine ce ?_;have av:=aa (cg.new w2 239 #[ι 0,ι 0]);have ak:=aa (U.below (ap w2 (.cells #[ι 0,ι 0] 239)));have ad:=aa (a5.alloc U.lt (.cells #[ι 0,ι 0] 239));have Y:=aa (Z.alloc (.cells #[ι 0,ι 0] 239));obtain⟨⟨y0,y1⟩,_⟩:=av.eb;obtain⟨⟨z0,z1,z2,z3⟩,_⟩:=Y.four;go_wp2;go_ret;exact .of rfl rfl ad ak
 case' orderB =>
  go_simp;refine y _ _ (λ_ hS=>⟨I.drew.alloc (.cells #[ι 0,ι 0] 239) |>.four.1.2.2.2,E.drew.blk.alloc (.cells #[ι 0,ι 0] 239) |>.ax.1.1⟩) ?_;try simp only[Act.put,sx]
  refine a8 6 (λK y=>?_);go_simp;refine(al _ (a3.alloc (by simp) (.cells #[ι 0,ι 0] 239))).mono ?_;rintro e w2⟨z,t,p,F,bf⟩;have F:e=.returned (.tuple #[.agg #[ι 0,ι 0],.iface t p]):=F;subst F;have J:=aa ((cg.dy (w.alloc (fk ⟨5,an,O,d⟩)) 239 #[ι 0,ι 0] (w.heap.size+1) (by simp)).drew.below z (by simp));have a1:=aa ((E.below (ap _ (.cells #[ι 0,ι 0] 239))).drew.below z);have a0:=aa ((I.alloc (.cells #[ι 0,ι 0] 239)).drew.below z (I.alloc (.cells #[ι 0,ι 0] 239)).lt);have a9:=aa ((ax.alloc E.lt (.cells #[ι 0,ι 0] 239)).drew.trans (z.mono (E.below (ap _ (.cells #[ι 0,ι 0] 239))).drew.lt));clear z;go_simp;refine y _ _ (λ_ hS=>⟨a0.four.1.2.2.2,a1.blk.ax.1.1⟩) ?_;try simp only[Act.put,sx]
  refine af 7 (.tuple #[.agg #[ι 0,ι 0],.iface t p]) ?_;refine af 8 (.agg #[ι 0,ι 0]) ?_;refine af 9 (.iface t p) ?_;try simp only[Act.put,sx]
  obtain⟨⟨v0,v1⟩,v2,v3⟩:=J.eb;refine a8 11 (λK y=>?_);go_simp;refine y _ _ (λh=>absurd h (by decide)) ?_;try simp only[Act.put,sx]
  refine af 12 (.iface t p) ?_;try simp only[Act.put,sx]
  refine ce ?_;have av:=aa (J.set2 (ι 0) (ι 0));have ak:=aa ((a1.m2 J 0 (ι 0) (by decide) (by decide) (by decide) (by decide)).m2 (J.ca 0 _) 1 (ι 0) (by decide) (by decide) (by decide) (by decide));have ad:=aa ((a9.setCell (p:=(δ (w.heap.size+1) 0)) (dn a2) (ι 0)).setCell (p:=(δ (w.heap.size+1) 1)) (dn a2) (ι 0));have Y:=aa (iu (iu a0 J (by decide) 0 (ι 0)) (J.ca 0 _) (by decide) 1 (ι 0));obtain⟨⟨y0,y1⟩,_⟩:=av.eb;obtain⟨⟨z0,z1,z2,z3⟩,_⟩:=Y.four;go_wp2;go_ret;exact .of rfl rfl ad ak
theorem bbo(B g:Nat)(y E z:Value)(X:Ds)(a:Ac)(w:ω)(U:ju w)(Q:a.expr.size<=1000000)(J:lk B g w y E z X)(W:X.env.length<=1000)(V:X.Fit)(O:X.out.length<=1000)(ad:X.ins.length<=1000) :
 Calls prog 215 #[φ g 0,tc a] w (kf B g (doA a X).isSome ((doA a X).getD X) w):=by
 obtain⟨kd,I,F,d⟩:=a;unfold doA;simp only at Q ⊢;by_cases h2:kd=2
 . subst h2;exact a5h B g y E z X I F d w J ad
 . rw[ah h2];by_cases h4:kd=4
   . subst h4;exact a0t B g y E z X I F d w J O
   . rw[ah h4];by_cases Z:kd=1\/kd=3\/kd=5
     . rw[ao Z];cases Y:aac d X.env with
       | bad c =>
        rcases Z with rfl | rfl | rfl
        . exact atf B g y E z X I F d w U Q J W V O c Y
        . exact atd B g y E z X I F d w U Q J W V O c Y
        . exact atb B g y E z X I F d w U Q J W V O c Y
       | ok k n =>
        unfold doV;simp only;by_cases h1:k=1
        . subst h1;rcases Z with rfl | rfl | rfl
          . exact av4 B g y E z X I F d w U Q J W V O n Y
          . exact av3 B g y E z X I F d w U Q J W V O n Y
          . exact av2 B g y E z X I F d w U Q J W V O n Y
        . rw[ah h1];rcases Z with rfl | rfl | rfl
          . exact ate B g y E z X I F d w U Q J W V O k n h1 Y
          . exact atc B g y E z X I F d w U Q J W V O k n h1 Y
          . exact ata B g y E z X I F d w U Q J W V O k n h1 Y
     . rw[ah Z];exact a5i B g y E z X ⟨kd,I,F,d⟩ w J (λh=>Z (.inl h)) h2 (λh=>Z (.inr (.inl h))) h4 (λh=>Z (.inr (.inr h)))
theorem jh{z:Func}{t u v:Tmp}(h:z.results=#[.tmp t,.tmp u,.tmp v])(d:Array Value)(P:Program)(w:ω) :
 (results z d).run P w=.ok (.tuple #[d.getD t undef,d.getD u undef,d.getD v undef]) w:=by
 simp[results,h]
theorem a1s{e:ByteArray}{env:List Int}{n:Int}(J:∀x∈env,uj x)(h:aac e env=.ok 1 n):uj n:=by
 unfold aac sb at h;cases d:fi e.data.toList with
 | form k=>rw[d]at h;cases h
 | large=>rw[d]at h;cases h
 | toks o =>
  rw[d]at h;simp only at h;rcases ah2 ⟨false,env,0⟩ o (tq d).2.1 J with ⟨k,m,z,E⟩ | ⟨c,z,_⟩
  . rw[z]at h;injection h with O I;subst I;rcases E with ⟨_,E⟩ | ⟨Q,_⟩
    . exact E
    . omega
  . rw[z]at h;cases h
theorem ax1{a:Ac}{d I:Ds}(z:d.Fit)(h:doA a d=some I):I.Fit:=by
 unfold doA at h;split at h
 . injection h with h;subst h;exact z
 . split at h
   . injection h with h;subst h;exact z
   . split at h
     . cases E:aac a.expr d.env with
       | bad c=>rw[E]at h;cases h
       | ok k n =>
        rw[E]at h;unfold doV at h;simp only at h;split at h
        . rename_i J;subst J;exact a9g (a1s z E) z h
        . cases h
     . injection h with h;subst h;exact z
def an3(X:Ds)(w:ω)(e:Ending)(w':ω):Prop :=
 κ w w'/\∃ve vo vi,e=.returned (.tuple #[ve,vo,vi])/\ez w.heap.size w' ve X.env/\iw w.heap.size w' vo X.out/\p9 w.heap.size w' vi X.ins
theorem an3.of{X Y:Ds}{g:Nat}{w w':ω}{e:Ending}{ve vo vi:Value}(E:e=.returned (.tuple #[ve,vo,vi]))(d:Y=X)(z:κ w w')(h:lk w.heap.size g w' ve vo vi X):an3 Y w e w':=⟨z,ve,vo,vi,E,d▸h.env,d▸h.out,d▸h.ins⟩
structure awq (n k:Nat) (X:Ds):Prop where
 env:X.env.length=n
 fit:X.Fit
 out:X.out.length<=k
 ins:X.ins.length<=k
theorem awq.next{n k:Nat}{X z:Ds}{a:Ac}(h:awq n k X)(E:doA a X=some z):awq n (k+1) z :=
 have d:=agw E
 ⟨d.env.trans h.env,ax1 h.fit E,a6 d.out (Nat.succ_le_succ h.out),a6 d.ins (Nat.succ_le_succ h.ins)⟩
theorem ajk(B:Nat)(w:ω)(e:TypeId)(s:Nat):w.ownsRow B e s (.slice none 0 0) 0 []:=⟨by simp,.inl ⟨rfl,rfl⟩⟩
theorem bbp(v a4:Value)(l:List Ac)(env:List Int)(w:ω)(hL:ju w)(hA:oc w v l)(hl:l.length<=40)(hx:∀a∈l,a.expr.size<=1000000)(hE:fe w a4 env)(cl:env.length<=1000)(bb:∀x∈env,uj x) :
 Calls prog 160 #[v,a4] w (an3 (doL l ⟨env,[],[]⟩) w):=by
 obtain⟨i0,HI,b8,b9,ca⟩:=ιp Tryz.info3;have b5:=aa (λ(a:Ac)(ha:a∈l)(g k:Nat)(ve vo vi:Value)(X:Ds)(W:ω)(h:κ w W)(d:lk w.heap.size g W ve vo vi X)(I:awq env.length k X)(hk:k<=40)=>bbo w.heap.size g ve vo vi X a W (hL.after h) (hx a ha) d (by have:=I.env;omega) I.fit (by have:=I.out;omega) (by have:=I.ins;omega));have b3:=aa (anq a4 env w hE cl);have b6:=aa bb;obtain⟨A,co,rfl,cv,he⟩:=hA;have HE:=aa he;obtain⟨E,hX⟩:∃E,E=doL l ⟨env,[],[]⟩:=⟨_,rfl⟩;rw[<-hX];have HX:=aa hX;clear hL hx hE bb he hX;go_enter func160,ntmps160;go_wp2_with fail;refine b3.mono ?_;rintro e V⟨ad,v1,rfl,a2⟩;obtain⟨eA,a0,rfl⟩:=a2.slice;have bt:=aa (ad.alloc ad.size (.cells #[.slice eA env.length a0,.slice none 0 0,.slice none 0 0] 233));have b4:Hid (lk w.heap.size V.heap.size (V.alloc (.cells #[.slice eA env.length a0,.slice none 0 0,.slice none 0 0] 233)) (.slice eA env.length a0) (.slice none 0 0) (.slice none 0 0) ⟨env,[],[]⟩):=aa ⟨cg.new V 233 _,ad.size,a2.below (ap _ _),ajk _ _ _ _,ajk _ _ _ _⟩;clear ad a2;go_wp2_with fail;go_loopw [15] (λi wr=>∃(k:Nat)(X:Ds)(ve vo vi:Value),k<=l.length/\i=ι (k:Int)/\Hid (κ w wr)/\Hid (lk w.heap.size V.heap.size wr ve vo vi X)/\Hid (E=doL (l.drop k) X)/\Hid (awq env.length k X)) (λi _=>l.length-(intOf i).toNat)
 case atStart=>exact ⟨0,_,_,_,_,ar _,rfl,bt,b4,HX,aa ⟨rfl,b6,ai _,ai _⟩⟩
 case round =>
  obtain⟨k,X,ve,vo,vi,hk,rfl,J,HD,HX,HC⟩:=hrel;obtain⟨wo,rfl⟩:∃wo:ω,wo=wr:=⟨_,rfl⟩;by_cases a1:k<l.length
  . obtain⟨b,o,rfl,ci,I⟩:=HE.out k _ (ae a1);obtain⟨c0,c1,c2,c3⟩:=aqd.keeps w wo b _ _ J ci I;have ba:Hid (E=doL (l[k]::l.drop (k+1)) X):=aa (by rw[HX.out,bp a1]);have O:=aa (b5 l[k] (bw a1) V.heap.size k ve vo vi X _ (J.alloc J.size (fk l[k])) (HD.below (ap wo (fk l[k]))) HC (by omega));have av:=aa (J.alloc J.size (fk l[k]));generalize l[k]=a at *;clear I;cases d:doA a X with
    | some X' =>
     rw[d]at O;have Y:Hid (E=doL (l.drop (k+1)) X'):=aa (ba.trans (pf d));have b2:=aa (HC.next d);obtain⟨cb,an,am,ex⟩:=a;simp only[Option.isSome_some,Option.getD_some]at O c0 c1 c2 c3;clear d;go_wp2_with fail;refine O.mono ?_;rintro e Z⟨rfl,Q,bf,bs,bk,U⟩;have al:=aa (av.trans Q);have z:=aa U;clear Q U;go_wp2;go_roundw
     case rel=>exact ⟨k+1,X',bf,bs,bk,by omega,by go_num,al,z,Y,b2⟩
     case measure=>simp[intOf];omega
    | none =>
     rw[d]at O;have Y:Hid (E=X.vq):=aa (ba.trans (oh d));obtain⟨cb,an,am,ex⟩:=a;simp only[Option.isSome_none,Option.getD_none]at O c0 c1 c2 c3;clear d;go_wp2_with fail;refine O.mono ?_;rintro e Z⟨rfl,Q,bf,bs,bk,U⟩;have al:=aa ((av.trans Q).alloc (av.trans Q).size (.cells #[ι 1001] 3));have z:=aa (U.below (ap Z (.cells #[ι 1001] 3)));have ax:=aa z.ins;have a9:=aa z.lt;have b7:=aa (vv Z 1001 Z.heap.size rfl);obtain⟨⟨d0,d1,d2⟩,f0,f1,f2⟩:=U.blk.ax;have c5:=HC.ins;clear Q U;go_wp2_with (at_builtin;refine wpList_append_own_at _ rfl _ _ 36 rfl w.heap.size 3 i0 (ι 0) 1 8 underlying36 HI b8 b9 ca rfl (by decide) _ _ _ rfl ax (δ Z.heap.size 0) 1 1 [ι 1001] rfl rfl b7 (qi _) ?c3 ?c4 a9 ?_)
     case c3=>unfold maxLen;omega
     case c4=>omega
     intro v3 w3 a3 ak _ _;obtain⟨g3,cc,rfl⟩:=ky a3;have a5:=aa (z.sz (x:=1001) ak a3);have b0:=aa ((ew (g:=0) al ax a9 ak).setCell (p:=(δ V.heap.size 2)) z.ge (.slice (some (δ g3 0)) (X.ins.length+1) cc));have b1:=aa (ec z.blk ax (by decide) ak);obtain⟨⟨y0,y1,y2⟩,x0,x1,x2⟩:=b1.ax;obtain⟨⟨z0,z1,z2⟩,_⟩:=a5.blk.ax;clear a3 ak d0 d1 d2 f0 f1 f2;go_wp2_with fail;go_quiet (fail);go_wp2_with fail;exact bodyPost_ret (jh rfl _ _ _) rfl (.of rfl Y (bx b0 _) (a5.drewN _))
  . obtain rfl:k=l.length:=(by omega);have Y:Hid (E=X):=aa (by rw[HX.out,bz];rfl);obtain⟨⟨d0,d1,d2⟩,_⟩:=HD.blk.ax;go_wp2_with fail;go_quiet (fail);go_wp2_with fail;exact bodyPost_ret (jh rfl _ _ _) rfl (.of rfl Y (bx J _) (HD.drewN _))
theorem uc{P:Program}{w W:ω}{o:Oper}{a:Act}{K:Act->ω->Prop}{Q:Exit->Act->ω->Prop}(s x:Operand)(t:TypeId)
 (Z:o.op=.call {callee:=.builtin .append,args:=#[s,x],argTypes:=#[t,t]})
 (base:Nat)(e:TypeId)(i:TypeInfo)(z:Value)(size bytes:Nat)(J:P.underlying t=some (.slice e))(E:P.info? e=some i)(hz:i.zero=some z)
 (a3:i.size=size)(am:i.bytes=bytes)(a5:z.cells.size=size)(a4:0<size)
 (v:Value)(n:Nat)(xs:List Value)(hs:a.eval s=v)(I:W.ownsRow base e size v n xs)
 (u:Value)(m:Nat)(d:List Value)(hx:a.eval x=u)(hr:ni w size u m d)(hb:κ w W)
 (ak:n+m<=maxLen)(av:(n+m)*bytes<=140737488355328)(al:base<=W.heap.size)
 (h:∀v' w',w'.ownsRow base e size v' (n+m) (xs++d)->W.grownBy w' v.ownBlock->K (a.put o.dst v') w'):o.wp P a W K Q:=by
 obtain⟨Y,⟨c,rfl,rfl⟩ | ⟨ad,O,rfl,U,h1⟩⟩:=hr
 . obtain rfl:d=[]:=bh (by simpa using Y);have a0:(Builtin.append_ #[t,t] o.type #[v,.slice none 0 c]).run P W=.ok v W:=by
    rcases I.2 with ⟨rfl,rfl⟩ | ⟨g,O,a9,rfl,_,_,ax,_⟩
    . simp[Builtin.append_,run_underlying J,sizeOf,typeInfo,E,Builtin.lenOf,Builtin.firstCells,go_sem]
    . simp[Builtin.append_,run_underlying J,sizeOf,typeInfo,E,Builtin.lenOf,Builtin.firstCells,ax,storeCells,go_sem]
   unfold Oper.wp execOp;simp only[Z,resolve,invoke,builtin,Sem.run_bind,Sem.run_pure,Result.andThen_ok,List.map_toArray,uk,List.map_nil,hs,hx,a0];exact h v W (by simpa using I) ⟨rfl,rfl,rfl,ai _,λ_ _ _=>rfl⟩
 . exact kw s x t Z base e i z size bytes J E hz a3 am a5 a4 v n xs hs I ad m O d hx Y (λj u V=>(hb.cell (Lib.lt_of_cell (U j u V))).trans (U j u V)) h1 ak av al (λv' w' a1 a2 _=>h v' w' a1 a2)
theorem afo{P:Program}{w W:ω}{E:Array Oper}{rest:List Oper}{o:Oper}{a:Act}{Q:Exit->Act->ω->Prop}(hw:Region.wanted o (yielded E a.tmps)=true)(s x:Operand)(t:TypeId)
 (ho:o.op=.call {callee:=.builtin .append,args:=#[s,x],argTypes:=#[t,t]})
 (base:Nat)(e:TypeId)(i:TypeInfo)(z:Value)(size bytes:Nat)(ht:P.underlying t=some (.slice e))(hi:P.info? e=some i)(hz:i.zero=some z)
 (al:i.size=size)(Z:i.bytes=bytes)(av:z.cells.size=size)(am:0<size)
 (v:Value)(n:Nat)(xs:List Value)(hs:a.eval s=v)(ak:W.ownsRow base e size v n xs)
 (u:Value)(m:Nat)(d:List Value)(hx:a.eval x=u)(hr:ni w size u m d)(V:κ w W)
 (O:n+m<=maxLen)(ad:(n+m)*bytes<=140737488355328)(Y:base<=W.heap.size)
 (h:∀v' w',w'.ownsRow base e size v' (n+m) (xs++d)->W.grownBy w' v.ownBlock->wpList P E Q rest (a.put o.dst v') w'):wpList P E Q (o::rest) a W :=
 BigFrame.wpList_want hw λK U=>uc s x t ho base e i z size bytes ht hi hz al Z av am v n xs hs ak u m d hx hr V O ad Y (λv' w' I J=>U _ _ (h v' w' I J))
theorem aet{w:ω}{v:Value}{L:List Ou}(h:abs w v L):ni w 4 v L.length (L.flatMap ft) :=
 aah aij (by decide) h (λb o x z j u d=>by
  obtain⟨E,I,J,O⟩:=z
  match j,d with
  | 0,d=>simp[ft]at d;subst d;exact E
  | 1,d=>simp[ft]at d;subst d;exact I
  | 2,d=>simp[ft]at d;subst d;exact J
  | 3,d=>simp[ft]at d;subst d;exact O
  | j+4,d=>simp[ft]at d) (λx _ u d=>ae2 x u d)
theorem ax0:∀(l:List Ac)(d:Ds),d.Fit->(doL l d).Fit
 | [],d,h=>h
 | a::l,d,h=>by
  cases z:doA a d with
  | none=>rw[oh z];exact h
  | some E=>rw[pf z];exact ax0 l E (ax1 h z)
def apd(A:Nat->Bool)(s:Int):Bool:=decide (0<=s)&&A s.toNat
theorem asm(A:Nat->Bool)(k:Nat):apd A (k:Int)=A k:=by unfold apd;simp
theorem bbw{S:List St}{a b c:Int}(h:jc S a b=true)(k:jc S b c=true):jc S a c=true:=anr a.toNat a b c (ai _) h k
theorem a5p{S:List St}{a:Int}(h:jc S a a=true):False:=by have:=lm h;omega
section
variable {S:List St} {F:(Nat→Bool)→Int→(Nat→Bool)} {y:Nat}
end
section
variable (S:List St) (X:List Int) (r:Int)
end
section
variable {S:List St} {X:List Int} {r:Int}
end
section
variable {S:List St} {X:List Int} {r:Int}
end
section
variable {S:List St} {H:List Nat} {r:Int} {l:List Int}
end
def ang(S:List St)(z:Int):Bool:=decide ((aq S z).kind=1)||decide ((aq S z).kind=4)
structure Se where
 a:Nat->Bool
 au:List Nat
 env:List Int
 ins:List Int
 st:Int
 out:List Ou
def doS(l:List Ac)(X:Se):Se :=
 ⟨X.a,X.au,(doL l ⟨X.env,[],[]⟩).env,X.ins++(doL l ⟨X.env,[],[]⟩).ins,X.st,X.out++(doL l ⟨X.env,[],[]⟩).out⟩
def Se.ta(X:Se)(a:Nat->Bool):Se:=⟨a,X.au,X.env,X.ins,X.st,X.out⟩
def Se.lq(X:Se)(n:Int):Se:=⟨X.a,X.au,X.env,X.ins,n,X.out⟩
def Se.l8(X:Se)(H:List Nat):Se:=⟨X.a,H,X.env,X.ins,X.st,X.out⟩
def Se.kc(X:Se)(n:Int):Se:=⟨X.a,X.au,X.env,X.ins ++ [n],X.st,X.out⟩
def ku(S:List St)(a:Nat->Bool):Nat->Int->Bool
 | 0,_=>false
 | f+1,s=>if (aq S s).kind=2 then (lj S s).any λk=>apd a k&&decide ((aq S k).kind=4)
  else if (aq S s).kind=3 then (lj S s).all (ku S a f) else false
def bcq(S:List St)(a:Nat->Bool)(s:Int):Bool:=ku S a (S.length+1) s
def vf(S:List St)(k:Int)(X:Se):Se :=
 if k=0 then X.lq 2
 else if (aq S (aq S k).par).kind=3/\bcq S X.a (aq S k).par=true then (X.kc (2000+k)).kc (2000+(aq S k).par)
 else X.kc (2000+k)
def enS(S:List St)(k:Int)(X:Se):Se :=
 if (aq S k).kind=4 then vf S (aq S k).par (doS (aq S k).kv (X.ta (de X.a k))) else doS (aq S k).kv (X.ta (de X.a k))
def nd(S:List St)(P:Nat->Bool):Nat->Se->Se
 | 0,X=>X
 | n+1,X=>if P n=true then enS S (n:Int) (nd S P n X) else nd S P n X
def jq(S:List St)(P:Nat->Bool):Nat->Se->Se
 | 0,X=>X
 | n+1,X=>if P n=true/\(jq S P n X).a n=false then enS S (n:Int) (jq S P n X) else jq S P n X
theorem bbi(S:List St)(k:Int)(X:Se):(vf S k X).a=X.a:=by
 unfold vf;split
 . rfl
 . split<;>rfl
theorem a98(S:List St)(k:Int)(X:Se):(enS S k X).a=de X.a k:=by
 unfold enS;split
 . rw[bbi];rfl
 . rfl
theorem a0l(S:List St)(k:Int)(X:Se):(vf S k X).au=X.au:=by
 unfold vf;split
 . rfl
 . split<;>rfl
theorem aas(S:List St)(k:Int)(X:Se):(enS S k X).au=X.au:=by
 unfold enS;split
 . rw[a0l];rfl
 . rfl
theorem ad1(S:List St)(P:Nat->Bool):∀(n:Nat)(X:Se),(nd S P n X).au=X.au
 | 0,X=>rfl
 | n+1,X=>by
  rw[nd];split
  . rw[aas,ad1 S P n X]
  . exact ad1 S P n X
theorem apl(S:List St)(P:Nat->Bool):∀(n:Nat)(X:Se)(k:Nat),(nd S P n X).a k=(X.a k||(decide (k<n)&&P k))
 | 0,X,k=>by simp[nd]
 | n+1,X,k=>by
  have I:=apl S P n X k;rw[nd];split
  . rename_i z;rw[a98];unfold de;rw[I];by_cases E:k=n
    . subst E;simp[z]
    . have J:decide ((k:Int)=(n:Int))=false:=(by simpa using (by omega:¬(k:Int)=n));have d:decide (k<n+1)=decide (k<n):=(by simp;omega);rw[J,d];simp
  . rename_i z;rw[I];by_cases E:k=n
    . subst E;simp[z]
    . have d:decide (k<n+1)=decide (k<n):=(by simp;omega);rw[d]
theorem adv(S:List St)(P:Nat->Bool)(X:Se):∀n:Nat,jq S P n X=nd S (λk=>P k&&!X.a k) n X
 | 0=>rfl
 | n+1=>by
  have I:=adv S P X n;rw[jq,nd,I];have E:(nd S (λk=>P k&&!X.a k) n X).a n=X.a n:=by rw[apl];simp
  rw[E];cases d:P n<;>cases z:X.a n<;>simp
theorem afd(S:List St){P Q:Nat->Bool}(X:Se):∀n:Nat,(∀k,k<n->P k=Q k)->nd S P n X=nd S Q n X
 | 0,_=>rfl
 | n+1,h=>by rw[nd,nd,afd S X n (λk d=>h k (by omega)),h n (by omega)]
theorem as4(S:List St){P:Nat->Bool}(d:P 0=true)(X:Se):∀n:Nat,(∀k,0<k->k<n+1->P k=false)->nd S P (n+1) X=enS S 0 X
 | 0,_=>by rw[nd,ao d];rfl
 | n+1,h=>by rw[nd,ah (by rw[h (n+1) (by omega) (by omega)];simp)];exact as4 S d X n (λk z E=>h k z (by omega))
structure ug (n:Nat) (X:Se):Prop where
 env:X.env.length<=1000
 fit:∀x∈X.env,uj x
 out:X.out.length<=50*n
 ins:X.ins.length<=100000+50*n
theorem ug.mono{n m:Nat}{X:Se}(h:ug n X)(d:n<=m):ug m X:=⟨h.env,h.fit,by have:=h.out;omega,by have:=h.ins;omega⟩
theorem agu{n:Nat}{X:Se}{l:List Ac}(h:ug n X)(U:l.length<=40):ug (n+1) (doS l X):=by
 have d:=aps l ⟨X.env,[],[]⟩;have z:=ajs l ⟨X.env,[],[]⟩;have E:=agv l ⟨X.env,[],[]⟩;have I:=ax0 l ⟨X.env,[],[]⟩ h.fit;have J:=h.env;have O:=h.out;have Q:=h.ins;simp only[dg]at d z E;refine⟨?_,I,?_,?_⟩
 . show(doL l ⟨X.env,[],[]⟩).env.length<=1000;omega
 . show(X.out++(doL l ⟨X.env,[],[]⟩).out).length<=_;rw[aw];omega
 . show(X.ins++(doL l ⟨X.env,[],[]⟩).ins).length<=_;rw[aw];omega
theorem agd{n:Nat}{X:Se}(h:ug n X)(a:Nat->Bool):ug n (X.ta a):=⟨h.env,h.fit,h.out,h.ins⟩
theorem azw{n:Nat}{X:Se}(h:ug n X)(a:Int):ug n (X.lq a):=⟨h.env,h.fit,h.out,h.ins⟩
theorem acr{n:Nat}{X:Se}(h:ug n X)(H:List Nat):ug n (X.l8 H):=⟨h.env,h.fit,h.out,h.ins⟩
theorem ah3{n:Nat}{X:Se}(h:ug n X)(x:Int):ug (n+1) (X.kc x):=by
 have d:=h.out;have z:=h.ins;refine⟨h.env,h.fit,?_,?_⟩
 . show X.out.length<=_;omega
 . show(X.ins ++ [x]).length<=_;rw[aw,gq];omega
theorem a4y{n:Nat}{X:Se}(S:List St)(k:Int)(h:ug n X):ug (n+2) (vf S k X):=by
 unfold vf;split
 . exact(azw h _).mono (by omega)
 . split
   . exact ah3 (ah3 h _) _
   . exact(ah3 h _).mono (by omega)
theorem ad2{n:Nat}{X:Se}{S:List St}(z:∀s,(aq S s).kv.length<=40)(k:Int)(h:ug n X):ug (n+3) (enS S k X):=by
 have d:=agu (agd h (de X.a k)) (z k);unfold enS;split
 . exact a4y S _ d
 . exact d.mono (by omega)
theorem aar{S:List St}(d:∀s,(aq S s).kv.length<=40){n:Nat}{X:Se}(P:Nat->Bool)(h:ug n X):∀k:Nat,ug (n+3*k) (nd S P k X)
 | 0=>h
 | k+1=>by
  have z:=aar d P h k;rw[nd];split
  . exact(ad2 d _ z).mono (by omega)
  . exact z.mono (by omega)
theorem axb(P Q:Nat->Bool)(n:Nat)(d:n<=31):bits .or .u32 ((bset P n:Nat):Int) ((bset Q n:Nat):Int)=((bset (λk=>P k||Q k) n:Nat):Int):=by rw[(bits_nat .u32 32 (by decide) o4 _ _ (fy P d) (fy Q d)).2];congr 1;refine ie λi=>?_;rw[Nat.testBit_or,j5,j5,j5];by_cases z:i<n<;>simp[z]
theorem yb(n:Nat):bset (λ_=>false) n=0:=(aau _ _).2 (by rw[gy];intro x _;simp)
theorem gj{P Q:Nat->Bool}:∀n:Nat,(∀k,k<n->P k=Q k)->bset P n=bset Q n
 | 0,_=>rfl
 | n+1,h=>by rw[bset,bset,gj n (λk d=>h k (by omega)),h n (by omega)]
theorem tz{P:Nat->Bool}{m:Nat}(k:Nat)(d:k<m):cm (bset P m) k=P k:=by unfold cm;rw[vj P m k d];cases P k<;>simp
theorem ant(P:Nat->Bool){n m:Nat}(z:n<=m)(h:∀k,n<=k->P k=false):bset P m=bset P n:=by
 obtain⟨d,rfl⟩:∃d,m=n+d:=⟨m-n,by omega⟩;clear z;induction d with
 | zero=>rfl
 | succ d E=>rw[show n+(d+1)=(n+d)+1 by omega,bset,h (n+d) (by omega),E];simp
abbrev jg:Nat->List Value:=λx=>[.int .u32 (x:Int)]
def lp(B:Nat)(w:ω)(v:Value)(H:List Nat):Prop:=cu B w 33 1 jg v H/\∀x∈H,x<4294967296
theorem lp.au{B:Nat}{w:ω}{v:Value}{H:List Nat}(h:lp B w v H):km w v H:=by have:=cu.rows (val:=λx:Nat=>x) (P:=atx) h.1 (λr z b o d=>⟨d 0 _ rfl,h.2 r z⟩);rwa [pw]at this
theorem lp.below{B:Nat}{w w':ω}{v:Value}{H:List Nat}(h:lp B w v H)(d:κ w w'):lp B w' v H:=⟨cu.below h.1 d,h.2⟩
theorem lp.lower{B B':Nat}{w:ω}{v:Value}{H:List Nat}(h:lp B w v H)(d:B'<=B):lp B' w v H:=⟨cu.lower h.1 d,h.2⟩
theorem lp.slice{B:Nat}{w:ω}{v:Value}{H:List Nat}(h:lp B w v H):∃A cap,v=.slice A H.length cap:=by
 rcases h.1 with ⟨rfl,rfl⟩ | ⟨g,cap,_,rfl,_⟩
 . exact⟨_,_,rfl⟩
 . exact⟨_,_,rfl⟩
theorem lp.place{B:Nat}{w:ω}{v:Value}{H:List Nat}{k:Nat}(h:lp B w v H)(J:k<H.length):∃b cap d,v=.slice (some (δ b 0)) H.length cap/\H.length<=cap/\B<=b/\cg w b 33 d/\w.cell? (δ b k)=some (.int .u32 ((H[k]:Nat):Int))/\w.frozen? (δ b k)=false:=by obtain ⟨g,cap,d,rfl,E,z,I,O⟩:=cu.at_ h.1 (ae J);have:=O 0 _ rfl;rw[bq,iy]at this;exact⟨g,cap,d,rfl,E,z,I,this.1,this.2⟩
theorem qu{ρ:Type}{w w':ω}{B B':Nat}{e t:TypeId}{s z n:Nat}{cells:ρ->List Value}{v u:Value}{L:List ρ}{xs:List Value}(h:cu B w e z cells v L)(Z:w.ownsRow B' t s u n xs)(W:e≠t)(Y:w.grownBy w' u.ownBlock):cu B w' e z cells v L:=by
 rcases h with h | ⟨g,E,I,J,O,d,Q,U⟩
 . exact .inl h
 . refine .inr ⟨g,E,I,J,O,d.grown Y ?_,Q,U⟩;exact λV=>m5 Z d (j1 W) V.symm
theorem cu.elsewhere{ρ:Type}{B:Nat}{w:ω}{e t:TypeId}{n g:Nat}{cells:ρ->List Value}{v:Value}{L:List ρ}{cs:Array Value}(h:cu B w e n cells v L)(E:cg w g t cs)(O:e≠t):v.ownBlock≠some g:=by
 rcases h with ⟨rfl,_⟩ | ⟨I,Q,U,rfl,_,d,_⟩
 . intro z;cases z
 . intro z;have z:I=g:=(by injection z);subst z;unfold cg at E d;rw[E]at d;injection d with d;injection d with _ J;exact O J.symm
theorem cu.free{ρ:Type}{B:Nat}{w:ω}{e n:Nat}{cells:ρ->List Value}{v:Value}{L:List ρ}(h:cu B w e n cells v L){k:Nat}(O:k<B):v.ownBlock≠some k:=by
 rcases h with ⟨rfl,_⟩ | ⟨z,E,I,rfl,J,_⟩
 . intro d;cases d
 . intro d;have d:z=k:=(by injection d);omega
structure pu (B:Nat) (w:World) (vh ve vi vo:Value) (X:Se):Prop where
 au:lp B w vh X.au
 env:ez B w ve X.env
 ins:p9 B w vi X.ins
 out:iw B w vo X.out
theorem pu.below{B:Nat}{w w':ω}{vh ve vi vo:Value}{X:Se}(h:pu B w vh ve vi vo X)(d:κ w w'):pu B w' vh ve vi vo X:=⟨h.au.below d,h.env.below d,h.ins.below d,h.out.below d⟩
theorem pu.apart{B:Nat}{w:ω}{vh ve vi vo:Value}{X:Se}{g:Nat}{t:TypeId}{cs:Array Value}(h:pu B w vh ve vi vo X)(d:cg w g t cs)(z:33≠t)(E:2≠t)(I:3≠t)(J:73≠t)(j:Nat)(u:Value):pu B (w.setCell (δ g j) u) vh ve vi vo X :=
 ⟨⟨cu.apart h.au.1 d z j u,h.au.2⟩,cu.apart h.env d E j u,du h.ins d I j u,du h.out d J j u⟩
theorem pu.atz{B:Nat}{w:ω}{vh ve vi vo d:Value}{X:Se}{E:List Int}(h:pu B w vh ve vi vo X)(z:ez B w d E):pu B w vh d vi vo ⟨X.a,X.au,E,X.ins,X.st,X.out⟩:=⟨h.au,z,h.ins,h.out⟩
theorem pu.ub{B:Nat}{w w':ω}{vh ve vi vo z:Value}{X:Se}{L:List Int}(h:pu B w vh ve vi vo X)(d:w.grownBy w' vi.ownBlock)(E:p9 B w' z L):pu B w' vh ve z vo ⟨X.a,X.au,X.env,L,X.st,X.out⟩ :=
 ⟨⟨qu h.au.1 h.ins (by decide) d,h.au.2⟩,qu h.env h.ins (by decide) d,E,World.ownsRow.kept h.out d (zg h.out h.ins (by decide))⟩
theorem pu.ab3{B:Nat}{w w':ω}{vh ve vi vo vo':Value}{X:Se}{L:List Ou}(h:pu B w vh ve vi vo X)(d:w.grownBy w' vo.ownBlock)(z:iw B w' vo' L):pu B w' vh ve vi vo' ⟨X.a,X.au,X.env,X.ins,X.st,L⟩ :=
 ⟨⟨qu h.au.1 h.out (by decide) d,h.au.2⟩,qu h.env h.out (by decide) d,World.ownsRow.kept h.ins d (zg h.ins h.out (by decide)),z⟩
theorem pu.ab2{B:Nat}{w:ω}{ve vi vo:Value}{b cap k n:Nat}{X:Se}{E:Array Value}(h:pu B w (.slice (some (δ b 0)) X.au.length cap) ve vi vo X)(z:cg w b 33 E)(I:k<X.au.length)(J:n<4294967296) :
 pu B (w.setCell (δ b k) (.int .u32 (n:Int))) (.slice (some (δ b 0)) X.au.length cap) ve vi vo (X.l8 (X.au.set k n)):=by
 refine⟨⟨?_,λx d=>?_⟩,cu.apart h.env z (by decide) k _,du h.ins z (by decide) k _,du h.out z (by decide) k _⟩
 . have:=cu.put (cells:=jg) (r':=n) (u:=.int .u32 (n:Int)) (j:=0) (λ_=>rfl) h.au.1 (ae I) (by decide) rfl;rwa [bq,iy]at this
 . rcases List.mem_or_eq_of_mem_set d with d | d
   . exact h.au.2 x d
   . exact d▸J
abbrev a2u(t:Nat)(C:Ch)(vs vt vh ve vi vo:Value)(X:Se):Array Value :=
 #[φ t 0,ι C.vars,vs,vt,.int .u32 ((bset X.a C.ab.length:Nat):Int),vh,ve,vi,ι X.st,vo]
structure fz (w0:World) (M:Nat->Option Obj) (t g:Nat) (vs vt:Value) (C:Ch) (w:World) (vh ve vi vo:Value) (X:Se):Prop where
 below:κ w0 w
 ge:w0.heap.size<=g
 blk:cg w g 111 (a2u t C vs vt vh ve vi vo X)
 rows:pu w0.heap.size w vh ve vi vo X
 ahb:∀k o,M k=some o->w.heap[k]?=some o/\k≠g/\vh.ownBlock≠some k/\vi.ownBlock≠some k/\vo.ownBlock≠some k
section
variable {w0:World} {M:Nat→Option Obj} {t g:Nat} {vs vt:Value} {C:Ch} {w w':World} {vh ve vi vo:Value} {X:Se}
theorem fz.lt(h:fz w0 M t g vs vt C w vh ve vi vo X):w0.heap.size<=w.heap.size:=h.below.size
theorem fz.after(h:fz w0 M t g vs vt C w vh ve vi vo X)(d:κ w w'):fz w0 M t g vs vt C w' vh ve vi vo X :=
 ⟨h.below.trans (d.mono h.lt),h.ge,h.blk.below d h.blk.lt,h.rows.below d,λk o I=>by
  obtain⟨z,E⟩:=h.ahb k o I
  exact⟨(d.block k (ii.1 z).1).trans z,E⟩⟩
theorem fz.drewN(h:fz w0 M t g vs vt C w vh ve vi vo X)(n:Nat):fz w0 M t g vs vt C (w.drewN n) vh ve vi vo X:=h.after (bx (ag _ _) n)
theorem fz.cells(h:fz w0 M t g vs vt C w vh ve vi vo X) :
 (w.cell? (δ g 0)=some (φ t 0)/\w.cell? (δ g 1)=some (ι C.vars)/\w.cell? (δ g 2)=some vs/\w.cell? (δ g 3)=some vt/\w.cell? (δ g 4)=some (.int .u32 ((bset X.a C.ab.length:Nat):Int)))/\
 (w.cell? (δ g 5)=some vh/\w.cell? (δ g 6)=some ve/\w.cell? (δ g 7)=some vi/\w.cell? (δ g 8)=some (ι X.st)/\w.cell? (δ g 9)=some vo) :=
 ⟨⟨h.blk.cell 0,h.blk.cell 1,h.blk.cell 2,h.blk.cell 3,h.blk.cell 4⟩,⟨h.blk.cell 5,h.blk.cell 6,h.blk.cell 7,h.blk.cell 8,h.blk.cell 9⟩⟩
theorem fz.ww(h:fz w0 M t g vs vt C w vh ve vi vo X) :
 w.frozen? (δ g 4)=false/\w.frozen? (δ g 5)=false/\w.frozen? (δ g 6)=false/\w.frozen? (δ g 7)=false/\w.frozen? (δ g 8)=false/\w.frozen? (δ g 9)=false :=
 ⟨h.blk.frozen 4,h.blk.frozen 5,h.blk.frozen 6,h.blk.frozen 7,h.blk.frozen 8,h.blk.frozen 9⟩
theorem fz.set(h:fz w0 M t g vs vt C w vh ve vi vo X){vh' E d vo':Value}{z:Se}(j:Nat)(u:Value)(Q:(a2u t C vs vt vh ve vi vo X).setIfInBounds j u=a2u t C vs vt vh' E d vo' z)(V:pu w0.heap.size w vh' E d vo' z)
 (U:∀k o,M k=some o->vh'.ownBlock≠some k/\d.ownBlock≠some k/\vo'.ownBlock≠some k):fz w0 M t g vs vt C (w.setCell (δ g j) u) vh' E d vo' z :=
 ⟨h.below.setCell h.ge u,h.ge,by rw[<-Q];exact h.blk.ca j u,V.apart h.blk (by decide) (by decide) (by decide) (by decide) j u,λk o J=>by
  obtain⟨O,I,_⟩:=h.ahb k o J
  exact⟨(cz w (δ g j) u k I).trans O,I,U k o J⟩⟩
theorem fz.same(h:fz w0 M t g vs vt C w vh ve vi vo X):∀k o,M k=some o->vh.ownBlock≠some k/\vi.ownBlock≠some k/\vo.ownBlock≠some k:=λk o d=>(h.ahb k o d).2.2
theorem fz.ta(h:fz w0 M t g vs vt C w vh ve vi vo X)(a:Nat->Bool):fz w0 M t g vs vt C (w.setCell (δ g 4) (.int .u32 ((bset a C.ab.length:Nat):Int))) vh ve vi vo (X.ta a) :=
 h.set 4 _ rfl ⟨h.rows.au,h.rows.env,h.rows.ins,h.rows.out⟩ h.same
theorem fz.lq(h:fz w0 M t g vs vt C w vh ve vi vo X)(n:Int):fz w0 M t g vs vt C (w.setCell (δ g 8) (ι n)) vh ve vi vo (X.lq n) :=
 h.set 8 _ rfl ⟨h.rows.au,h.rows.env,h.rows.ins,h.rows.out⟩ h.same
theorem fz.atz(h:fz w0 M t g vs vt C w vh ve vi vo X){d:Value}{E:List Int}(z:ez w0.heap.size w d E):fz w0 M t g vs vt C (w.setCell (δ g 6) d) vh d vi vo ⟨X.a,X.au,E,X.ins,X.st,X.out⟩ :=
 h.set 6 _ rfl (h.rows.atz z) h.same
theorem fz.ub(h:fz w0 M t g vs vt C w vh ve vi vo X){d:Value}{L:List Int}(E:w.grownBy w' vi.ownBlock)(Y:w'.ownsRow w0.heap.size 3 1 d (X.ins.length+L.length) (bg X.ins++bg L))(z:d.ownBlock=vi.ownBlock\/d.ownBlock=some w.heap.size) :
 fz w0 M t g vs vt C (w'.setCell (δ g 7) d) vh ve d vo ⟨X.a,X.au,X.env,X.ins++L,X.st,X.out⟩:=by
 have Z:p9 w0.heap.size w' d (X.ins++L):=by unfold p9 bg;rw[ik,aw];exact Y
 have I:cg w' g 111 (a2u t C vs vt vh ve vi vo X):=ec h.blk h.rows.ins (by decide) E;have h1:fz w0 M t g vs vt C w' vh ve vi vo ⟨X.a,X.au,X.env,X.ins,X.st,X.out⟩->True:=λ_=>trivial;refine⟨(ew (g:=g) h.below h.rows.ins h.lt E).setCell h.ge _,h.ge,I.ca 7 d,(h.rows.ub E Z).apart I (by decide) (by decide) (by decide) (by decide) 7 d,λk o V=>?_⟩;obtain⟨O,Q,p3,U,p5⟩:=h.ahb k o V;have W:=(ii.1 O).1;refine⟨((cz w' (δ g 7) d k Q).trans (E.block k W (j1 U))).trans O,Q,p3,?_,p5⟩;rcases z with z | z
 . rw[z];exact U
 . rw[z];intro J;injection J with J;omega
theorem fz.ab3(h:fz w0 M t g vs vt C w vh ve vi vo X){vo':Value}{L:List Ou}(z:w.grownBy w' vo.ownBlock)(W:w'.ownsRow w0.heap.size 73 4 vo' (X.out.length+L.length) (X.out.flatMap ft++L.flatMap ft))(d:vo'.ownBlock=vo.ownBlock\/vo'.ownBlock=some w.heap.size) :
 fz w0 M t g vs vt C (w'.setCell (δ g 9) vo') vh ve vi vo' ⟨X.a,X.au,X.env,X.ins,X.st,X.out++L⟩:=by
 have Y:iw w0.heap.size w' vo' (X.out++L):=by unfold iw;rw[j7,aw];exact W
 have E:cg w' g 111 (a2u t C vs vt vh ve vi vo X):=ec h.blk h.rows.out (by decide) z;refine⟨(ew (g:=g) h.below h.rows.out h.lt z).setCell h.ge _,h.ge,E.ca 9 vo',(h.rows.ab3 z Y).apart E (by decide) (by decide) (by decide) (by decide) 9 vo',λk o U=>?_⟩;obtain⟨J,O,Z,p4,Q⟩:=h.ahb k o U;have V:=(ii.1 J).1;refine⟨((cz w' (δ g 9) vo' k O).trans (z.block k V (j1 Q))).trans J,O,Z,p4,?_⟩;rcases d with d | d
 . rw[d];exact Q
 . rw[d];intro I;injection I with I;omega
theorem fz.ab2{b cap k n:Nat}{J:Array Value}(h:fz w0 M t g vs vt C w (.slice (some (δ b 0)) X.au.length cap) ve vi vo X)(z:cg w b 33 J)(Q:w0.heap.size<=b)(Z:k<X.au.length)(hn:n<4294967296) :
 fz w0 M t g vs vt C (w.setCell (δ b k) (.int .u32 (n:Int))) (.slice (some (δ b 0)) (X.l8 (X.au.set k n)).au.length cap) ve vi vo (X.l8 (X.au.set k n)):=by
 have hl:(X.l8 (X.au.set k n)).au.length=X.au.length:=mn ..;have Y:g≠b:=λW=>by have d:=h.blk;subst W;unfold cg at d z;rw[z]at d;injection d with d;injection d with _ O;exact absurd O (by decide)
 rw[hl];refine⟨h.below.setCell Q _,h.ge,(cz w (δ b k) _ g Y).trans h.blk,h.rows.ab2 z Z hn,λE o U=>?_⟩;obtain⟨p1,p2,I,p4,p5⟩:=h.ahb E o U;refine⟨(cz w (δ b k) _ E (λV=>I (by rw[V];rfl))).trans p1,p2,I,p4,p5⟩
theorem fz.also{b:Nat}{ty:TypeId}{cs:Array Value}(h:fz w0 M t g vs vt C w vh ve vi vo X)(z:cg w b ty cs)(J:111≠ty)(O:33≠ty)(Q:3≠ty)(U:73≠ty) :
 fz w0 (λk=>if k=b then some (.cells cs ty (0,0)) else M k) t g vs vt C w vh ve vi vo X :=
 ⟨h.below,h.ge,h.blk,h.rows,λk o d=>by
  by_cases I:k=b
  . subst I
    rw[ao rfl]at d
    injection d with d
    subst d
    refine⟨z,λW=>?_,cu.elsewhere h.rows.au.1 z O,m5 h.rows.ins z Q,m5 h.rows.out z U⟩
    have E:=h.blk
    unfold cg at E z
    rw[<-W,z]at E
    injection E with E
    injection E with _ V
    exact J V.symm
  . rw[ah I]at d
    exact h.ahb k o d⟩
theorem fz.less{d:Nat->Option Obj}(h:fz w0 d t g vs vt C w vh ve vi vo X)(z:∀k o,M k=some o->d k=some o):fz w0 M t g vs vt C w vh ve vi vo X :=
 ⟨h.below,h.ge,h.blk,h.rows,λk o E=>h.ahb k o (z k o E)⟩
theorem fz.a61{b:Nat}{o:Obj}{z:ω}{Q O U V:Value}{E:Se}(h:fz w0 (λk=>if k=b then some o else M k) t g vs vt C w vh ve vi vo X)(I:fz w0 M t g vs vt C z Q O U V E)(W:z.heap.size<=b):fz w0 M t g vs vt C w vh ve vi vo X :=
 h.less λk J d=>by
  have:=(ii.1 (I.ahb k J d).1).1
  rw[ah (by omega)]
  exact d
theorem fz.stays{b:Nat}{ty:TypeId}{cs:Array Value}(h:fz w0 (λk=>if k=b then some (.cells cs ty (0,0)) else M k) t g vs vt C w vh ve vi vo X):cg w b ty cs:=(h.ahb b _ (ao rfl)).1
theorem fz.drew(h:fz w0 M t g vs vt C w vh ve vi vo X):fz w0 M t g vs vt C w.drew vh ve vi vo X:=h.after (ag _ _).drew
end
def ai1(w0:ω)(M:Nat->Option Obj)(t g:Nat)(vs vt:Value)(C:Ch)(Y:Se)(e:Ending)(w':ω):Prop:=e=.returned (.tuple #[])/\∃vh ve vi vo,fz w0 M t g vs vt C w' vh ve vi vo Y
structure Fx (w0:World) (t:Nat) (vs vt:Value) (C:Ch):Prop where
 laid:ju w0
 tree:fs w0 t C
 has:d8 w0 vs vt C
 chk:chk eu C=.ok
 few:fewB C=true
theorem Fx.oz{w0:ω}{t:Nat}{vs vt:Value}{C:Ch}(h:Fx w0 t vs vt C):l1 C.ab:=gr h.chk
theorem Fx.rooted{w0:ω}{t:Nat}{vs vt:Value}{C:Ch}(h:Fx w0 t vs vt C):p8 C.ab:=aho h.chk
theorem ny{l:List Ac}(h:ly l=true):l.length<=40/\∀a∈l,a.expr.size<=1000000:=by
 unfold ly at h;simp only[bj,bi]at h;obtain⟨z,J⟩:=h;refine⟨by omega,λa E=>?_⟩;obtain⟨i,d⟩:=jp E;have I:=(bo.1 d).1;have:=zh z i I;rw[bv,d]at this;have:a.expr.size<=500:=by simpa using this
 omega
theorem Fx.acts{w0:ω}{t:Nat}{vs vt:Value}{C:Ch}(h:Fx w0 t vs vt C)(s:Int):((aq C.ab s).kv.length<=40/\∀a∈(aq C.ab s).kv,a.expr.size<=1000000)/\((aq C.ab s).me.length<=40/\∀a∈(aq C.ab s).me,a.expr.size<=1000000):=by
 unfold aq;rcases et s.toNat C.ab.length with z | z
 . have:=(fx h.few).2.2.1 s.toNat z;unfold p7 at this;simp only[bj,bi]at this;exact⟨ny this.1.1,ny this.1.2⟩
 . rw[bv,cn z];exact⟨⟨by decide,λa d=>by cases d⟩,⟨by decide,λa d=>by cases d⟩⟩
theorem fh{P:Program}{w W:ω}{U:Array Oper}{rest:List Oper}{o:Oper}{a:Act}{Q:Exit->Act->ω->Prop}(hw:Region.wanted o (yielded U a.tmps)=true)(s x:Operand)(t:TypeId)
 (ho:o.op=.call {callee:=.builtin .append,args:=#[s,x],argTypes:=#[t,t]})
 (base:Nat)(e:TypeId)(i:TypeInfo)(z:Value)(size bytes:Nat)(O:P.underlying t=some (.slice e))(I:P.info? e=some i)(hz:i.zero=some z)
 (a1:i.size=size)(am:i.bytes=bytes)(a3:z.cells.size=size)(a2:0<size)
 (v:Value)(n:Nat)(xs:List Value)(hs:a.eval s=v)(J:W.ownsRow base e size v n xs)
 (u:Value)(m:Nat)(d:List Value)(hx:a.eval x=u)(hr:ni w size u m d)(hb:κ w W)
 (ak:n+m<=maxLen)(av:(n+m)*bytes<=140737488355328)(al:base<=W.heap.size)
 (h:∀v' w',w'.ownsRow base e size v' (n+m) (xs++d)->W.grownBy w' v.ownBlock->(v'.ownBlock=v.ownBlock\/v'.ownBlock=some W.heap.size)->wpList P U Q rest (a.put o.dst v') w'):wpList P U Q (o::rest) a W :=
 BigFrame.wpList_want hw λK hK=>by
  have Y:∀v' w',w'.ownsRow base e size v' (n+m) (xs++d)->W.grownBy w' v.ownBlock->(v'.ownBlock=v.ownBlock\/v'.ownBlock=some W.heap.size)->K (a.put o.dst v') w':=λv' w' E h2 h3=>hK _ _ (h v' w' E h2 h3)
  obtain⟨hn,⟨c,rfl,rfl⟩ | ⟨ad,V,rfl,Z,E⟩⟩:=hr
  . obtain rfl:d=[]:=bh (by simpa using hn)
    have a0:(Builtin.append_ #[t,t] o.type #[v,.slice none 0 c]).run P W=.ok v W:=by
     rcases J.2 with ⟨rfl,rfl⟩ | ⟨g,V,a4,rfl,_,_,ax,_⟩
     . simp[Builtin.append_,run_underlying O,sizeOf,typeInfo,I,Builtin.lenOf,Builtin.firstCells,go_sem]
     . simp[Builtin.append_,run_underlying O,sizeOf,typeInfo,I,Builtin.lenOf,Builtin.firstCells,ax,storeCells,go_sem]
    unfold Oper.wp execOp
    simp only[ho,resolve,invoke,builtin,Sem.run_bind,Sem.run_pure,Result.andThen_ok,List.map_toArray,uk,List.map_nil,hs,hx,a0]
    exact Y v W (by simpa using J) ⟨rfl,rfl,rfl,ai _,λ_ _ _=>rfl⟩ (.inl rfl)
  . exact kw s x t ho base e i z size bytes O I hz a1 am a3 a2 v n xs hs J ad m V d hx hn (λj u hj=>(hb.cell (Lib.lt_of_cell (Z j u hj))).trans (Z j u hj)) E ak av al Y
section
variable (C:Ch)
def ow(n:Nat)(l:List Int)(m k:Nat):Bool:=(List.range m).any λi=>l.contains (i:Int)&&cm (leftN C n (i:Int)) k
def ahv(H:List Nat)(l:List Int)(m k:Nat):Bool:=(List.range m).any λi=>decide ((es C.ay (i:Int)).cj≠ [])&&(l.contains (i:Int)&&(ae1 C.ab H (mj C (i:Int)) (es C.ay (i:Int)).cj).a k)
end
def vy(S:List St)(a:Nat->Bool)(h:Int):Nat->Bool:=λk =>
 if (aq S h).kind=5 then decide ((aq S (k:Int)).par=(aq S h).par)&&a k else (a k&&ang S (k:Int))&&jc S (k:Int) (aq S h).par
def q8(S:List St)(Q a:Nat->Bool):Nat->List Nat->List Nat
 | 0,H=>H
 | m+1,H=>if ct (aq S (m:Int)).kind=true/\Q (aq S (m:Int)).par.toNat=true then (q8 S Q a m H).set m (bset (vy S a (m:Int)) S.length) else q8 S Q a m H
theorem qd(S:List St)(Q a:Nat->Bool):∀(m:Nat)(H:List Nat),(q8 S Q a m H).length=H.length
 | 0,H=>rfl
 | m+1,H=>by
  rw[q8];split
  . rw[mn,qd S Q a m H]
  . exact qd S Q a m H
theorem aor(S:List St)(Q a:Nat->Bool)(H:List Nat):∀(m k:Nat),k<H.length->(q8 S Q a m H).getD k 0=if k<m/\ct (aq S (k:Int)).kind=true/\Q (aq S (k:Int)).par.toNat=true then bset (vy S a (k:Int)) S.length else H.getD k 0
 | 0,k,E=>by rw[q8,ah (by omega)]
 | m+1,k,E=>by
  have I:=aor S Q a H m k E;rw[q8];split
  . rename_i z;by_cases d:k=m
    . subst d;rw[ao ⟨by omega,z⟩,bv,ea (by rw[qd];exact E)];rfl
    . rw[bv,gf (j1 d),<-bv,I];have:(k<m+1)=(k<m):=(by apply propext;omega);simp only[this]
  . rename_i z;rw[I];by_cases d:k=m
    . subst d;rw[ah (λh=>by omega),ah (λh=>z h.2)]
    . have:(k<m+1)=(k<m):=(by apply propext;omega);simp only[this]
theorem aw7{S:List St}(z:S.length<=31)(Q a:Nat->Bool):∀(m:Nat)(H:List Nat),(∀x∈H,x<4294967296)->∀x∈q8 S Q a m H,x<4294967296
 | 0,H,h=>h
 | m+1,H,h=>by
  have E:=aw7 z Q a m H h;rw[q8];split
  . intro x d;rcases List.mem_or_eq_of_mem_set d with d | d
    . exact E x d
    . rw[d];exact fy _ z
  . exact E
def au5(S:List St)(k:Nat)(X:Se):Se:=(doS (aq S (k:Int)).me X).ta λj=>X.a j&&decide (j≠k)
def qe(S:List St)(Q:Nat->Bool):Nat->Se->Se
 | 0,X=>X
 | d+1,X=>if Q (S.length-1-d)=true then au5 S (S.length-1-d) (qe S Q d X) else qe S Q d X
theorem az2(S:List St)(k:Nat)(X:Se):(au5 S k X).au=X.au:=rfl
theorem qw(S:List St)(Q:Nat->Bool):∀(d:Nat)(X:Se),(qe S Q d X).au=X.au
 | 0,X=>rfl
 | d+1,X=>by
  rw[qe];split
  . rw[az2,qw S Q d X]
  . exact qw S Q d X
theorem a3s(S:List St)(Q:Nat->Bool):∀(d:Nat)(X:Se),d<=S.length->∀k,k<S.length->(qe S Q d X).a k=(X.a k&&!(decide (S.length-d<=k)&&Q k))
 | 0,X,_,k,O=>by
  have:¬S.length<=k:=by omega
  rw[qe];simp[this]
 | d+1,X,V,k,O=>by
  have U:=a3s S Q d X (by omega) k O;rw[qe];split
  . rename_i E;show((qe S Q d X).a k&&decide (k≠S.length-1-d))=_;rw[U];by_cases z:k=S.length-1-d
    . have I:S.length-(d+1)<=k:=(by omega);rw[<-z]at E;simp[z.symm,I,E]
    . have J:decide (S.length-(d+1)<=k)=decide (S.length-d<=k):=(by simp;omega);rw[J];simp[z]
  . rename_i E;rw[U];by_cases z:k=S.length-1-d
    . have I:Q k=false:=(by rw[z];simpa using E);rw[I];simp
    . have J:decide (S.length-(d+1)<=k)=decide (S.length-d<=k):=(by simp;omega);rw[J]
theorem aal{S:List St}(z:∀s,(aq S s).me.length<=40){n:Nat}{X:Se}(Q:Nat->Bool)(h:ug n X):∀d:Nat,ug (n+d) (qe S Q d X)
 | 0=>h
 | d+1=>by
  have E:=aal z Q h d;rw[qe];split
  . exact agd (agu E (z _)) _
  . exact E.mono (by omega)
def acU(R:List Tr)(l:List Int):Nat->Se->Se
 | 0,X=>X
 | m+1,X=>doS (es R (l.getD m 0)).acts (acU R l m X)
theorem yw(R:List Tr)(l:List Int):∀(m:Nat)(X:Se),(acU R l m X).au=X.au
 | 0,X=>rfl
 | m+1,X=>yw R l m X
theorem a99(R:List Tr)(l:List Int):∀(m:Nat)(X:Se),(acU R l m X).a=X.a
 | 0,X=>rfl
 | m+1,X=>a99 R l m X
theorem ajy{R:List Tr}{l:List Int}(d:∀i,(es R i).acts.length<=40){n:Nat}{X:Se}(h:ug n X):∀m:Nat,ug (n+m) (acU R l m X)
 | 0=>h
 | m+1=>agu (ajy d h m) (d _)
def lvS(S:List St)(Q:Nat->Bool)(X:Se):Se:=qe S Q S.length (X.l8 (q8 S Q X.a S.length X.au))
def o8(C:Ch)(l:List Int)(X:Se):Se :=
 let d:=acU C.ay l l.length (lvS C.ab (ow C (bset X.a C.ab.length) l C.ay.length) X)
 nd C.ab (λk=>ahv C d.au l C.ay.length k&&!d.a k) C.ab.length d
theorem tj(C:Ch)(l:List Int)(X:Se):(o8 C l X).au=q8 C.ab (ow C (bset X.a C.ab.length) l C.ay.length) X.a C.ab.length X.au:=by unfold o8;simp only;rw[ad1,yw];unfold lvS;rw[qw];rfl
theorem ba2(C:Ch)(l:List Int)(X:Se){k:Nat}(d:k<C.ab.length) :
 (o8 C l X).a k=((X.a k&&!ow C (bset X.a C.ab.length) l C.ay.length k)||ahv C (o8 C l X).au l C.ay.length k):=by
 have I:(acU C.ay l l.length (lvS C.ab (ow C (bset X.a C.ab.length) l C.ay.length) X)).au=(o8 C l X).au:=by rw[tj,yw];unfold lvS;rw[qw];rfl
 have z:(acU C.ay l l.length (lvS C.ab (ow C (bset X.a C.ab.length) l C.ay.length) X)).a k=(X.a k&&!ow C (bset X.a C.ab.length) l C.ay.length k):=by
  rw[a99];unfold lvS;rw[a3s _ _ _ _ (ai _) k d];show(X.a k&&_)=_;have:C.ab.length-C.ab.length<=k:=by omega
  simp
 have E:(o8 C l X).a k=((acU C.ay l l.length (lvS C.ab (ow C (bset X.a C.ab.length) l C.ay.length) X)).a k||(decide (k<C.ab.length)&&(ahv C (acU C.ay l l.length (lvS C.ab (ow C (bset X.a C.ab.length) l C.ay.length) X)).au l C.ay.length k&&!(acU C.ay l l.length (lvS C.ab (ow C (bset X.a C.ab.length) l C.ay.length) X)).a k))):=apl _ _ _ _ _;rw[E,I,z,em d];cases X.a k&&!ow C (bset X.a C.ab.length) l C.ay.length k<;>simp
theorem kh(k:Nat)(E:k<=31)(w:ω):Calls prog 100 #[ι (k:Int)] w λe w'=>e=.returned (.int .u32 ((2^k:Nat):Int))/\w=w':=by
 have I:decide ((k:Int)<0)=false:=by simp
 go_enter func100,ntmps100;go_wp2;go_ret;refine⟨cw ?_,rfl⟩;have d:(2:Nat)^k<=2^31:=ic (by decide) E;have z:((2:Int)^k)=((2^k:Nat):Int):=by simp
 rw[show (2:Nat)^31=2147483648 by decide]at d;rw[z];generalize 2^k=m at *;omega
theorem aly(P:Nat->Bool)(k:Nat):(List.range (k+1)).any P=((List.range k).any P||P k):=by rw[mm,mq];simp
theorem a57(P:Nat->Bool)(k:Nat):(List.range (k+1)).all P=((List.range k).all P&&P k):=by rw[mm,List.all_append];simp
theorem a06{P:Nat->Bool}{k:Nat}(h:(List.range k).any P=false)(d:P k=false):(List.range (k+1)).any P=false:=by rw[aly,h,d];rfl
theorem a5x{P:Nat->Bool}{k n:Nat}(h:k<n)(d:P k=true):(List.range n).any P=true:=iz.2 ⟨k,dk.2 h,d⟩
theorem a55{P:Nat->Bool}{k:Nat}(h:(List.range k).all P=true)(d:P k=true):(List.range (k+1)).all P=true:=by rw[a57,h,d];rfl
theorem a1a{P:Nat->Bool}{k n:Nat}(h:k<n)(d:P k=false):(List.range n).all P=false:=List.all_eq_false.2 ⟨k,dk.2 h,by rw[d];simp⟩
theorem ao9(S:List St)(s:Int)(f:Int->Bool):(lj S s).any f=(List.range S.length).any λk=>vw S s k&&f (k:Int):=by unfold lj sf;rw[List.any_map,List.any_filter];rfl
theorem apa(S:List St)(s:Int)(f:Int->Bool):(lj S s).all f=(List.range S.length).all λk=>!vw S s k||f (k:Int):=by unfold lj sf;rw[List.all_map,List.all_filter];rfl
section
variable {w0:World} {M:Nat→Option Obj} {t g:Nat} {vs vt:Value} {C:Ch} {w:World} {vh ve vi vo:Value} {X:Se}
theorem ape(E:Fx w0 t vs vt C)(U:fz w0 M t g vs vt C w vh ve vi vo X)(Q:Nat->Bool) :
 Calls prog 216 #[φ g 0,.int .u32 ((bset Q C.ab.length:Nat):Int)] w λe w'=>e=.returned (.bool ((List.range C.ab.length).any λk=>Q k&&decide ((aq C.ab (k:Int)).kind=4)))/\κ w w':=by
 have a9:=E.oz.len;obtain⟨sA,ba,tA,bb,rfl,rfl⟩:=E.has.slices;have Z:=aa U;have HC:=aa E.has;obtain⟨⟨x0,x1,x2,x3,x4⟩,-⟩:=U.cells;clear E U;go_enter func216,ntmps216;go_wp2_with fail;go_loopw [13] (λi wr=>∃k:Nat,k<=C.ab.length/\i=ι (k:Int)/\κ w wr/\Hid ((List.range k).any (λk=>Q k&&decide ((aq C.ab (k:Int)).kind=4))=false)) (λi _=>C.ab.length-(intOf i).toNat)
 case atStart=>exact ⟨0,ar _,rfl,ag _ _,aa rfl⟩
 case round =>
  obtain⟨k,hk,rfl,d,Y⟩:=hrel;obtain⟨wo,rfl⟩:∃wo:ω,wo=wr:=⟨_,rfl⟩;clear x0 x1 x2 x3 x4;by_cases V:k<C.ab.length
  . obtain⟨b,o,a4,ui,ue,ux,a1,_,a0,am,ak⟩:=HC.st V;injection a1 with e1 e2 e3;subst e1;obtain⟨c0,c1,c2,c3,c4⟩:=am.below (Z.below.trans (d.mono Z.lt)) a0;obtain⟨iA,a2,eA,ax,xA,a3,rfl,rfl,rfl⟩:=ak.slices;have al:=(qg Q C.ab.length k (by omega) V).2;have z:Hid ((Q k&&decide ((aq C.ab (k:Int)).kind=4))=false->(List.range (k+1)).any (λk=>Q k&&decide ((aq C.ab (k:Int)).kind=4))=false):=aa (λh=>a06 Y h);have ad:Hid ((Q k&&decide ((aq C.ab (k:Int)).kind=4))=true->(List.range C.ab.length).any (λk=>Q k&&decide ((aq C.ab (k:Int)).kind=4))=true):=aa (λh=>a5x V h);have W:=aa d;have O:=aa (d.alloc d.size (qc (aq C.ab (k:Int)).kind (aq C.ab (k:Int)).par (.slice iA (aq C.ab (k:Int)).ip.length a2) (.slice eA (aq C.ab (k:Int)).kv.length ax) (.slice xA (aq C.ab (k:Int)).me.length a3)));generalize (aq C.ab (k:Int)).kind=K at *;generalize (aq C.ab (k:Int)).par=P at *;generalize (aq C.ab (k:Int)).ip.length=il at *;generalize (aq C.ab (k:Int)).kv.length=el at *;generalize (aq C.ab (k:Int)).me.length=xl at *;clear am ak e2 e3 d;cases J:Q k with
    | false =>
     rw[J]at al z;clear J;go_wp2_with fail;refine(kh k (by omega) _).mono ?_;rintro e w2⟨rfl,rfl⟩;go_wp2;go_roundw
     case rel=>exact ⟨k+1,by omega,by go_num,O,aa (z rfl)⟩
     case measure=>simp[intOf];omega
    | true =>
     rw[J]at al z ad;clear J;by_cases I:K=4
     . subst I;go_wp2_with fail;refine(kh k (by omega) _).mono ?_;rintro e w2⟨rfl,rfl⟩;go_wp2;go_ret;exact⟨by rw[ad.out rfl];rfl,O⟩
     . have a5:(K==4)=false:=(by simpa using I);have av:=aa (z (by simpa using I));clear I;go_wp2_with fail;refine(kh k (by omega) _).mono ?_;rintro e w2⟨rfl,rfl⟩;go_wp2;go_roundw
       case rel=>exact ⟨k+1,by omega,by go_num,O,av⟩
       case measure=>simp[intOf];omega
  . obtain rfl:k=C.ab.length:=(by omega);have W:=aa d;go_wp2;go_ret;exact⟨by rw[Y.out];rfl,W⟩
def a6n(w0:ω)(M:Nat->Option Obj)(t g:Nat)(vs vt:Value)(C:Ch)(vh ve vi vo:Value)(X:Se)(f:Nat):Prop :=
 ∀(s:Int)(w:ω),c6 C.ab s=true->C.ab.length<f+s.toNat->fz w0 M t g vs vt C w vh ve vi vo X->
  Calls prog 161 #[φ g 0,ι s] w λe w'=>e=.returned (.bool (ku C.ab X.a f s))/\κ w w'
theorem ats{f:Nat}(Z:Fx w0 t vs vt C)(hD:a6n w0 M t g vs vt C vh ve vi vo X f)(hS:fz w0 M t g vs vt C w vh ve vi vo X)(Q:Nat->Bool)(hQ:∀k,k<C.ab.length->Q k=true->C.ab.length<f+k) :
 Calls prog 217 #[φ g 0,.int .u32 ((bset Q C.ab.length:Nat):Int)] w λe w'=>e=.returned (.bool ((List.range C.ab.length).all λk=>!Q k||ku C.ab X.a f (k:Int)))/\κ w w':=by
 have ak:=Z.oz.len;obtain⟨sA,al,tA,am,rfl,rfl⟩:=Z.has.slices;have HS:=aa hS;have HD:=aa hD;have HQ:=aa hQ;obtain⟨⟨x0,x1,x2,x3,x4⟩,-⟩:=hS.cells;clear Z hS hD hQ;go_enter func217,ntmps217;go_wp2_with fail;go_loopw [12] (λi wr=>∃k:Nat,k<=C.ab.length/\i=ι (k:Int)/\κ w wr/\Hid ((List.range k).all (λk=>!Q k||ku C.ab X.a f (k:Int))=true)) (λi _=>C.ab.length-(intOf i).toNat)
 case atStart=>exact ⟨0,ar _,rfl,ag _ _,aa rfl⟩
 case round =>
  obtain⟨k,hk,rfl,hb,HO⟩:=hrel;obtain⟨wo,rfl⟩:∃wo:ω,wo=wr:=⟨_,rfl⟩;clear x0 x1 x2 x3 x4;have d:=aa hb;clear hb;by_cases U:k<C.ab.length
  . have ad:=(qg Q C.ab.length k (by omega) U).2;have z:Hid ((!Q k||ku C.ab X.a f (k:Int))=true->(List.range (k+1)).all (λk=>!Q k||ku C.ab X.a f (k:Int))=true):=aa (λh=>a55 HO h);have Y:Hid ((!Q k||ku C.ab X.a f (k:Int))=false->(List.range C.ab.length).all (λk=>!Q k||ku C.ab X.a f (k:Int))=false):=aa (λh=>a1a U h);cases I:Q k with
    | false =>
     rw[I]at ad z;clear I;go_wp2_with fail;refine(kh k (by omega) _).mono ?_;rintro e V⟨rfl,rfl⟩;go_wp2;go_roundw
     case rel=>exact ⟨k+1,by omega,by go_num,d,aa (z rfl)⟩
     case measure=>simp[intOf];omega
    | true =>
     have J:=aa (HD (k:Int) wo (ll U) (by have:=HQ.out k U I;omega) (HS.after d))
     rw[I]at ad z Y
     clear I
     cases O:ku C.ab X.a f (k:Int) with
     | true =>
      rw[O]at J z
      clear O
      go_wp2_with fail
      refine(kh k (by omega) _).mono ?_
      rintro e V⟨rfl,rfl⟩
      go_wp2_with fail
      refine J.mono ?_
      rintro e V⟨rfl,E⟩
      have W:=aa (d.trans (E.mono d.size))
      clear E
      go_wp2
      go_roundw
      case rel=>exact ⟨k+1,by omega,by go_num,W,aa (z rfl)⟩
      case measure=>simp[intOf];omega
     | false =>
      rw[O]at J Y
      clear O
      go_wp2_with fail
      refine(kh k (by omega) _).mono ?_
      rintro e V⟨rfl,rfl⟩
      go_wp2_with fail
      refine J.mono ?_
      rintro e V⟨rfl,E⟩
      have W:=aa (d.trans (E.mono d.size))
      clear E
      go_wp2
      go_ret
      exact⟨by rw[Y.out rfl];rfl,W⟩
  . obtain rfl:k=C.ab.length:=(by omega);go_wp2;go_ret;exact⟨by rw[HO.out];rfl,d⟩
theorem anl(z:Fx w0 t vs vt C):∀f:Nat,a6n w0 M t g vs vt C vh ve vi vo X f
 | 0=>λs w Y hf d=>by have:=fj.1 Y;omega
 | f+1=>λs w Y hf d=>by
  have ih:=anl z f;have ax:=z.oz;have bf:=ax.len;have a9:=(fj.1 Y).1;have O:=aa (tu t s C w (z.tree.below d.below) (by omega));have al:kt C.ab s=(aq C.ab s).kind:=by unfold kt;rw[ao Y]
  rw[al]at O;have a4:=aa (ahi t s C w (z.tree.below d.below) (by omega) Y);have a3:=aa (ahi t s C w.drew (z.tree.below d.drew.below) (by omega) Y);have HS:=aa d;have HF:=aa z;obtain⟨⟨x0,x1,x2,x3,x4⟩,-⟩:=d.cells;by_cases E:(aq C.ab s).kind=2
  . have Z:Hid (ku C.ab X.a (f+1) s=(List.range C.ab.length).any λk=>(vw C.ab s k&&X.a k)&&decide ((aq C.ab (k:Int)).kind=4)):=aa (by rw[ku,ao E,ao9];congr 1;funext k;rw[asm,nt]);have av:bits .and .u32 ((bset (vw C.ab s) C.ab.length:Nat):Int) ((bset X.a C.ab.length:Nat):Int)=((bset (λk=>vw C.ab s k&&X.a k) C.ab.length:Nat):Int):=(by rw[(bits_nat .u32 32 (by decide) o4 _ _ (fy _ (by omega)) (fy _ (by omega))).1,atp]);have a1:=aa av;have a2:=aa (λ(W:ω)(h:κ w W)=>ape HF (HS.after h) (λk=>vw C.ab s k&&X.a k));rw[E]at O;clear E z d al ih av;go_enter func161,ntmps161;go_wp2_with fail;refine O.mono ?_;rintro e w1⟨rfl,rfl⟩;go_wp2_with fail;refine cr (λW=>W.cell? (δ g 0)=some (φ t 0)/\W.cell? (δ g 4)=some (.int .u32 ((bset X.a C.ab.length:Nat):Int))) [] ?_;try simp only[Act.put,sx]
    refine af 0 (φ g 0) ?_;refine af 1 (φ g 0) ?_;refine af 2 (φ g 0) ?_;refine af 3 (φ g 0) ?_;refine a7 4 (φ t 0) (⟨x0,x4⟩) ?_;refine af 5 (ι s) ?_;refine af 7 (φ g 0) ?_;refine af 8 (φ g 0) ?_;refine af 9 (φ g 4) ?_;refine af 10 (φ g 4) ?_;refine a7 11 (.int .u32 ((bset X.a C.ab.length:Nat):Int)) (⟨x0,x4⟩) ?_;try simp only[Act.put,sx]
    refine a8 6 (λK J=>?_);go_simp;refine a3.mono ?_;rintro e w2⟨rfl,U⟩;have I:Hid (κ w w2):=aa ((ag _ _).drew.trans U);have ad:=aa (HS.drew.after U);clear U;go_simp;refine J _ _ (λ_ d=>⟨ad.cells.1.1,ad.cells.1.2.2.2.2⟩) ?_;try simp only[Act.put,sx]
    refine a8 12 (λK J=>?_);go_simp;rw[a1.out];refine J _ _ (λ_ d=>⟨ad.cells.1.1,ad.cells.1.2.2.2.2⟩) ?_;try simp only[Act.put,sx]
    refine a8 13 (λK J=>?_);go_simp;refine(a2 _ I).mono ?_;rintro e w3⟨rfl,V⟩;have am:=aa (I.trans (V.mono I.size));have ak:=aa (ad.after V);clear V;go_simp;refine J _ _ (λ_ d=>⟨ak.cells.1.1,ak.cells.1.2.2.2.2⟩) ?_;try simp only[Act.put,sx]
    refine a8 14 (λK J=>?_);go_simp;refine J _ _ (λ_ d=>⟨ak.cells.1.1,ak.cells.1.2.2.2.2⟩) ?_;try simp only[Act.put,sx]
    refine ce ?_;go_wp2;go_ret;exact⟨by rw[Z.out];rfl,am⟩
  . by_cases Q:(aq C.ab s).kind=3
    . have Z:Hid (ku C.ab X.a (f+1) s=(List.range C.ab.length).all λk=>!vw C.ab s k||ku C.ab X.a f (k:Int)):=aa (by rw[ku,ah E,ao Q,apa]);have a0:=aa (λ(W:ω)(h:κ w W)=>ats HF ih (HS.after h) (vw C.ab s) (λk hk a5=>by have hm:(k:Int)∈lj C.ab s:=(by unfold lj sf;exact gt.2 ⟨k,ey.2 ⟨dk.2 hk,a5⟩,rfl⟩);have:=(ax.aty a9 hm).2.2.2.1;omega));rw[Q]at O;clear E Q z d al ih;go_enter func161,ntmps161;go_wp2_with fail;refine O.mono ?_;rintro e w1⟨rfl,rfl⟩;go_wp2_with fail;refine a4.mono ?_;rintro e w2⟨rfl,U⟩;have I:=aa U;clear U;go_wp2_with fail;refine(a0 _ I).mono ?_;rintro e w3⟨rfl,V⟩;have am:=aa (I.trans (V.mono I.size));clear V;go_wp2;go_ret;exact⟨by rw[Z.out];rfl,am⟩
    . have Z:Hid (ku C.ab X.a (f+1) s=false):=aa (by rw[ku,ah E,ah Q]);have ba:((aq C.ab s).kind==2)=false:=(by simpa using E);have bb:((aq C.ab s).kind==3)=false:=(by simpa using Q);generalize (aq C.ab s).kind=K at *;clear E Q z d al ih;go_enter func161,ntmps161;go_wp2_with fail;refine O.mono ?_;rintro e w1⟨rfl,rfl⟩;go_wp2;go_ret;exact⟨by rw[Z.out];rfl,ag _ _⟩
end
theorem aiz(P Q:Nat->Bool)(n:Nat)(y:n<=31):bits .andNot .u32 ((bset P n:Nat):Int) ((bset Q n:Nat):Int)=((bset (λk=>P k&&!Q k) n:Nat):Int):=by
 have E:=fy Q y;rw[u32_andNot_nat _ _ (fy P y) E];congr 1;refine ie λi=>?_;have z:(4294967295-bset Q n).testBit i=(decide (i<32)&&!(bset Q n).testBit i):=by have:=Nat.testBit_two_pow_sub_succ (x:=bset Q n) (n:=32) (by omega) i;rw[<-this];congr 1;omega
 rw[qk,z,j5,j5,j5];by_cases d:i<n
 . have:i<32:=(by omega);simp[d,this]
 . simp[d]
theorem acn(w:ω)(x:Int):ni (w.alloc (.cells #[ι x] 3)) 1 (.slice (some (δ w.heap.size 0)) 1 1) 1 [ι x] :=
 ⟨rfl,.inr ⟨(δ w.heap.size 0),1,rfl,vv w x _ rfl,qi x⟩⟩
section
variable {w0:World} {M:Nat→Option Obj} {t g:Nat} {vs vt:Value} {C:Ch} {w:World} {vh ve vi vo:Value} {X:Se}
theorem apr(hF:Fx w0 t vs vt C)(F:fz w0 M t g vs vt C w vh ve vi vo X){n:Nat}(I:ug n X)(hn:n<=10000)(va:Value)(l:List Ac)(hA:oc w va l)(hl:l.length<=40)(hx:∀a∈l,a.expr.size<=1000000) :
 Calls prog 101 #[φ g 0,va] w (ai1 w0 M t g vs vt C (doS l X)):=by
 obtain⟨i0,hi,a2,a3,a4⟩:=info_parts Tryz.info3;obtain⟨i1,ji,a5,a9,ba⟩:=info_parts Tryz.zz;have HI:=aa hi;have b0:=aa a2;have b1:=aa a3;have b2:=aa a4;have JI:=aa ji;have b3:=aa a5;have b4:=aa a9;have b5:=aa ba;have HS:=aa F;obtain⟨⟨x0,x1,x2,x3,x4⟩,x5,x6,x7,x8,x9⟩:=F.cells;have ak:=aa (bbp va ve l X.env w (hF.laid.after F.below) hA hl hx F.rows.env.nums I.env I.fit);have ca:=I.out;have b9:=I.ins;have ax:=ajs l ⟨X.env,[],[]⟩;have av:=agv l ⟨X.env,[],[]⟩;simp only[dg]at ax av;obtain⟨D,O⟩:∃D,doL l ⟨X.env,[],[]⟩=D:=⟨_,rfl⟩;have HR:Hid (doS l X=⟨X.a,X.au,D.env,X.ins++D.ins,X.st,X.out++D.out⟩):=aa (by rw[<-O];rfl);rw[O]at ak ax av;clear hi a2 a3 a4 ji a5 a9 ba O hF F I hA hx;go_enter func101,ntmps101;go_wp2_with fail;refine ak.mono ?_;rintro e w1⟨Q,cb,ci,cc,rfl,U,a1,a0⟩;obtain⟨A1,am,rfl⟩:=ez.slice U;have z:=aa (HS.after Q);have b7:=aa Q;have Z:=HS.lt;have d:=aa (z.atz (cu.lower U Z));have bf:=aa (du (fp a1 Z) z.blk (by decide) 6 (.slice A1 D.env.length am));have al:=aa (du (fp a0 Z) z.blk (by decide) 6 (.slice A1 D.env.length am));have bk:=aa (aet (iw.outs bf));clear x0 x1 x2 x3 x4 x5 x6 x7 x8 x9;obtain⟨⟨x0,x1,x2,x3,x4⟩,x5,x6,x7,x8,x9⟩:=z.cells;obtain⟨z4,z5,z6,z7,z8,z9⟩:=z.ww;clear Q U a1 a0;go_wp2_with (at_builtin;refine fh rfl _ _ 39 rfl w0.heap.size 73 i1 (.agg #[ι 0,ι 0,ι 0,ι 0]) 4 32 underlying39 JI.out b3.out b4.out b5.out rfl (by decide) _ X.out.length (X.out.flatMap ft) rfl d.rows.out _ D.out.length (D.out.flatMap ft) rfl bk (ag _ _) ?c3 ?c4 ?c5 ?_)
 case c3=>unfold maxLen;omega
 case c4=>omega
 case c5=>simpa using d.lt
 intro v3 w3 W J h3;obtain⟨A3,b6,rfl⟩:=cd W;have E:=aa (d.ab3 (L:=D.out) J W (by simpa using h3));have y:=aa (ec d.blk d.rows.out (by decide) J);have bb:=aa (du (World.ownsRow.kept al J (zg al d.rows.out (by decide))) y (by decide) 9 (.slice A3 (X.out.length+D.out.length) b6));have bs:=aa (l9 (oy.fg bb (ai _)).list);have y7:w3.cell? (δ g 7)=some vi:=y.cell 7;have y9:w3.cell? (δ g 9)=some vo:=y.cell 9;have u7:=y.frozen 7;have u9:=y.frozen 9;clear W J h3 x0 x1 x2 x3 x4 x5 x6 x7 x8 x9 z4 z5 z6 z7 z8 z9;go_wp2_with (at_builtin;refine fh rfl _ _ 36 rfl w0.heap.size 3 i0 (ι 0) 1 8 underlying36 HI b0 b1 b2 rfl (by decide) _ X.ins.length (bg X.ins) rfl E.rows.ins _ D.ins.length (bg D.ins) rfl bs (ag _ _) ?c3 ?c4 ?c5 ?_)
 case c3=>unfold maxLen;omega
 case c4=>omega
 case c5=>simpa using E.lt
 intro v5 w5 Y V h5;obtain⟨A5,b8,rfl⟩:=cd Y;have bt:=aa (E.ub (L:=D.ins) V Y (by simpa using h5));have ad:=aa (ec E.blk E.rows.ins (by decide) V);have t7:w5.cell? (δ g 7)=some vi:=ad.cell 7;have r7:=ad.frozen 7;clear Y V h5 y7 y9 u7 u9;go_wp2;go_end0;exact⟨rfl,_,_,_,_,by rw[HR.out];exact bt⟩
theorem ai1.of{Y Z:Se}{e:Ending}{d:ω}(z:e=.returned (.tuple #[]))(y:Z=Y){vh ve vi vo:Value}(h:fz w0 M t g vs vt C d vh ve vi vo Y):ai1 w0 M t g vs vt C Z e d:=⟨z,vh,ve,vi,vo,y▸h⟩
theorem avr(z:Fx w0 t vs vt C)(O:fz w0 M t g vs vt C w vh ve vi vo X){n:Nat}(hX:ug n X)(hn:n<=10000)(k:Nat)(hk:k<C.ab.length) :
 Calls prog 102 #[φ g 0,ι (k:Int)] w (ai1 w0 M t g vs vt C (vf C.ab (k:Int) X)):=by
 have cl:=z.oz.len;have HS:=aa O;obtain⟨⟨x0,x1,x2,x3,x4⟩,x5,x6,x7,x8,x9⟩:=O.cells;obtain⟨z4,z5,z6,z7,z8,z9⟩:=O.ww;by_cases h0:k=0
 . subst h0;have y:Hid (vf C.ab ((0:Nat):Int) X=X.lq 2):=aa (by unfold vf;rw[ao (by simp)]);have b3:=aa (HS.lq 2);clear z O hX;go_enter func102,ntmps102;go_wp2;go_end0;exact .of rfl y b3
 . obtain⟨i0,HI,a5,a9,ba⟩:=ιp Tryz.info3;have cb:((k:Int)==0)=false:=(by simp;omega);have cc:=hX.ins;have a1:=z.oz;have bt:=a1.up (k:Int) (ll hk) (by omega);have b8:=a1.par (k:Int) (ll hk);obtain⟨u1,u2,u3⟩:=n5 bt;obtain⟨p,hp⟩:∃p:Nat,(aq C.ab (k:Int)).par=(p:Int):=⟨(aq C.ab (k:Int)).par.toNat,by omega⟩;have bk:p<C.ab.length:=(by omega);obtain⟨sA,ak,tA,a2,rfl,rfl⟩:=z.has.slices;have HF:=aa z;have F:=aa (λ(W:ω)(h:κ w0 W)=>tu t (p:Int) C W (z.tree.below h) (by omega));have bf:kt C.ab (p:Int)=(aq C.ab (p:Int)).kind:=(by unfold kt;rw[ao (ll bk)]);rw[bf]at F;have I:=aa (HS.after (ap w (.cells #[ι (2000+(k:Int))] 3)));have b0:=aa (acn w (2000+(k:Int)));obtain⟨b,o,ca,ui,ue,ux,b9,_,b6,bs,b7⟩:=z.has.st hk;injection b9 with e1 e2 e3;subst e1;have b5:=aa bs;have HP:=aa hp;have a4:=aa (λ(W:ω)(vh ve vi vo:Value)(Y:Se)(h:fz w0 M t g (.slice (some (δ b o)) C.ab.length ak) (.slice tA C.ay.length a2) C W vh ve vi vo Y)=>anl HF (C.ab.length+1) (p:Int) W (ll bk) (by omega) h);have y:Hid (vf C.ab (k:Int) X=if (aq C.ab (p:Int)).kind=3/\ku C.ab X.a (C.ab.length+1) (p:Int)=true then (X.kc (2000+(k:Int))).kc (2000+(p:Int)) else X.kc (2000+(k:Int))):=aa (by unfold vf;rw[ah (by omega),hp];rfl);clear z O hX a1 bt b8 u1 u2 u3 bs b7 e2 e3 hp bf;go_enter func102,ntmps102;go_wp2_with (at_builtin;refine fh rfl _ _ 36 rfl w0.heap.size 3 i0 (ι 0) 1 8 underlying36 HI a5 a9 ba rfl (by decide) _ X.ins.length (bg X.ins) rfl I.rows.ins _ 1 [ι (2000+(k:Int))] rfl b0 (ag _ _) ?c3 ?c4 ?c5 ?_)
   case c3=>unfold maxLen;omega
   case c4=>omega
   case c5=>simpa using I.lt
   intro v3 w3 ax am h3;obtain⟨A3,al,rfl⟩:=cd ax;have d:Hid (fz w0 M t g (.slice (some (δ b o)) C.ab.length ak) (.slice tA C.ay.length a2) C (w3.setCell (δ g 7) (.slice A3 (X.ins.length+1) al)) vh ve (.slice A3 (X.ins.length+1) al) vo (X.kc (2000+(k:Int)))):=aa (I.ub (L:=[2000+(k:Int)]) am ax (by simpa using h3));have Z:=aa (ec I.blk I.rows.ins (by decide) am);have y0:w3.cell? (δ g 0)=some (φ t 0):=Z.cell 0;have y2:w3.cell? (δ g 2)=some (.slice (some (δ b o)) C.ab.length ak):=Z.cell 2;have y7:w3.cell? (δ g 7)=some vi:=Z.cell 7;have r7:=Z.frozen 7;obtain⟨c0,c1,c2,c3,c4⟩:=b5.below d.below b6;rw[HP.out]at c1;clear ax am h3 x0 x1 x2 x3 x4 x5 x6 x7 x8 x9 z4 z5 z6 z7 z8 z9;by_cases V:(aq C.ab (p:Int)).kind=3
   . rw[V]at F y;clear V;cases E:ku C.ab X.a (C.ab.length+1) (p:Int) with
     | true =>
      rw[E]at y;have HD:=aa E;clear E;go_wp2_with fail;refine(F _ d.below).mono ?_;rintro e w4⟨rfl,rfl⟩;go_wp2_with fail;refine(a4 _ _ _ _ _ _ d).mono ?_;rintro e w5⟨rfl,Q⟩;have U:ku C.ab (X.kc (2000+(k:Int))).a (C.ab.length+1) (p:Int)=true:=HD.out;rw[U];have ad:=aa (d.after Q);have J:=aa (ad.after (ap w5 (.cells #[ι (2000+(p:Int))] 3)));have b2:=aa (acn w5 (2000+(p:Int)));obtain⟨⟨x0,x1,x2,x3,x4⟩,x5,x6,x7,x8,x9⟩:=ad.cells;clear Q y0 y2 y7 r7 c0 c1 c2 c3 c4 U;go_wp2_with (at_builtin;refine fh rfl _ _ 36 rfl w0.heap.size 3 i0 (ι 0) 1 8 underlying36 HI a5 a9 ba rfl (by decide) _ (X.kc (2000+(k:Int))).ins.length (bg (X.kc (2000+(k:Int))).ins) rfl J.rows.ins _ 1 [ι (2000+(p:Int))] rfl b2 (ag _ _) ?c3 ?c4 ?c5 ?_)
      case c3=>unfold maxLen;show (X.ins ++ [_]).length+1<=_;rw[aw,gq];omega
      case c4=>show ((X.ins ++ [_]).length+1)*8<=_;rw[aw,gq];omega
      case c5=>simpa using J.lt
      intro v7 w7 a0 av h7;obtain⟨A7,bb,rfl⟩:=cd a0;have b4:Hid (fz w0 M t g (.slice (some (δ b o)) C.ab.length ak) (.slice tA C.ay.length a2) C (w7.setCell (δ g 7) (.slice A7 ((X.kc (2000+(k:Int))).ins.length+1) bb)) vh ve (.slice A7 ((X.kc (2000+(k:Int))).ins.length+1) bb) vo ((X.kc (2000+(k:Int))).kc (2000+(p:Int)))):=aa (J.ub (L:=[2000+(p:Int)]) av a0 (by simpa using h7));have a3:=aa (ec J.blk J.rows.ins (by decide) av);have y7:w7.cell? (δ g 7)=some (.slice A3 (X.ins.length+1) al):=a3.cell 7;have r7:=a3.frozen 7;clear a0 av h7 x0 x1 x2 x3 x4 x5 x6 x7 x8 x9;go_wp2;go_end0;exact .of rfl (by rw[y.out,ao (by simp)]) b4
     | false =>rw[E]at y;have HD:=aa E;clear E;go_wp2_with fail;refine(F _ d.below).mono ?_;rintro e w4⟨rfl,rfl⟩;go_wp2_with fail;refine(a4 _ _ _ _ _ _ d).mono ?_;rintro e w5⟨rfl,Q⟩;have U:ku C.ab (X.kc (2000+(k:Int))).a (C.ab.length+1) (p:Int)=false:=HD.out;rw[U];have ad:=aa (d.after Q);clear Q y0 y2 y7 r7 c0 c1 c2 c3 c4 U;go_wp2;go_end0;exact .of rfl (by rw[y.out,ah (by simp)]) ad
   . have ci:((aq C.ab (p:Int)).kind==3)=false:=(by simpa using V);have b1:Hid (vf C.ab (k:Int) X=X.kc (2000+(k:Int))):=aa (by rw[y.out,ah (λh=>V h.1)]);generalize (aq C.ab (p:Int)).kind=K at *;clear V;go_wp2_with fail;refine(F _ d.below).mono ?_;rintro e w4⟨rfl,rfl⟩;go_wp2;go_end0;exact .of rfl b1 d
theorem agq(d:Fx w0 t vs vt C)(y:fz w0 M t g vs vt C w vh ve vi vo X){n:Nat}(hX:ug n X)(hn:n<=9000)(k:Nat)(Z:k<C.ab.length) :
 Calls prog 50 #[φ g 0,ι (k:Int)] w (ai1 w0 M t g vs vt C (enS C.ab (k:Int) X)):=by
 have b9:=d.oz.len;have ad:=d.oz;obtain⟨sA,ca,tA,cb,rfl,rfl⟩:=d.has.slices;have HS:=aa y;have HF:=aa d;obtain⟨⟨x0,x1,x2,x3,x4⟩,x5,x6,x7,x8,x9⟩:=y.cells;have a1:=acv X.a C.ab.length k (by omega) Z;obtain⟨b,o,b6,ui,ue,ux,b2,_,bt,a5,av⟩:=d.has.st Z;injection b2 with e1 e2 e3;subst e1;obtain⟨c0,c1,c2,c3,c4⟩:=a5.below y.below bt;have ba:=aa av;obtain⟨O,Q,I,J,U,V,rfl,rfl,rfl⟩:=av.slices;have ak:=aa (d.acts (k:Int)).1;have b5:=aa (cg.new w 59 #[ι (aq C.ab (k:Int)).kind,ι (aq C.ab (k:Int)).par,.slice O (aq C.ab (k:Int)).ip.length Q,.slice I (aq C.ab (k:Int)).kv.length J,.slice U (aq C.ab (k:Int)).me.length V]);have F:=aa (HS.after (ap w (qc (aq C.ab (k:Int)).kind (aq C.ab (k:Int)).par (.slice O (aq C.ab (k:Int)).ip.length Q) (.slice I (aq C.ab (k:Int)).kv.length J) (.slice U (aq C.ab (k:Int)).me.length V))));have b7:g<w.heap.size:=y.blk.lt;have a0:=aa (agd hX (de X.a (k:Int)));have bb:=aa a1;have a2:(aq C.ab (k:Int)).kind=4->∃p:Nat,(aq C.ab (k:Int)).par=(p:Int)/\p<C.ab.length:=λh4=>by
  have b0:0<(k:Int):=by
   rcases mf k with h | h
   . subst h;have:=ad.first;rw[show (((0:Nat):Int))=0 from rfl,this]at h4;omega
   . omega
  have b4:=ad.up (k:Int) (ll Z) b0;have hp:=ad.par (k:Int) (ll Z);obtain⟨u1,u2,u3⟩:=n5 b4;exact⟨(aq C.ab (k:Int)).par.toNat,by omega,by omega⟩
 have bf:=aa a2;clear d y hX ad a5 av e2 e3 a1 a2;go_enter func50,ntmps50;go_wp2_with fail;refine cr (λW=>W.cell? (δ g 4)=some (.int .u32 ((bset X.a C.ab.length:Nat):Int))) [11] ?_;try simp only[Act.put,sx]
 refine af 0 (φ g 0) ?_;refine af 1 (φ g 0) ?_;refine af 2 (φ g 4) ?_;refine af 3 (φ g 4) ?_;refine a7 4 (.int .u32 ((bset X.a C.ab.length:Nat):Int)) (F.drew.cells.1.2.2.2.2) ?_;refine af 5 (ι (k:Int)) ?_;try simp only[Act.put,sx]
 refine a8 6 (λK E=>?_);go_simp;refine(kh k (by omega) _).mono ?_;rintro e w2⟨rfl,rfl⟩;go_simp;refine E _ _ (λ_ y=>F.drew.cells.1.2.2.2.2) ?_;try simp only[Act.put,sx]
 refine a8 7 (λK E=>?_);go_simp;rw[bb.out];refine E _ _ (λ_ y=>F.drew.cells.1.2.2.2.2) ?_;try simp only[Act.put,sx]
 have y4:=F.drew.cells.1.2.2.2.2;have z4:=F.drew.ww.1;refine af 8 (φ g 0) ?_;refine af 9 (φ g 4) ?_;refine af 10 (φ g 4) ?_;try simp only[Act.put,sx]
 refine a8 11 (λK E=>?_);go_simp;go_simp;refine E _ _ (λh=>absurd h (by decide)) ?_;try simp only[Act.put,sx]
 refine ce ?_;have b3:(w.setCell (δ g 4) (.int .u32 ((bset (de X.a (k:Int)) C.ab.length:Nat):Int))).heap.size=w.heap.size:=by simp
 have Y:=aa (((HS.ta (de X.a (k:Int))).after (ap (w.setCell (δ g 4) (.int .u32 ((bset (de X.a (k:Int)) C.ab.length:Nat):Int))) (qc (aq C.ab (k:Int)).kind (aq C.ab (k:Int)).par (.slice O (aq C.ab (k:Int)).ip.length Q) (.slice I (aq C.ab (k:Int)).kv.length J) (.slice U (aq C.ab (k:Int)).me.length V)))).drew.also (cg.new (w.setCell (δ g 4) (.int .u32 ((bset (de X.a (k:Int)) C.ab.length:Nat):Int))) 59 #[ι (aq C.ab (k:Int)).kind,ι (aq C.ab (k:Int)).par,.slice O (aq C.ab (k:Int)).ip.length Q,.slice I (aq C.ab (k:Int)).kv.length J,.slice U (aq C.ab (k:Int)).me.length V]).drew (by decide) (by decide) (by decide) (by decide));rw[b3]at Y;have ax:=aa (HS.after (ag _ _));generalize ((w.setCell (δ g 4) (.int .u32 ((bset (de X.a (k:Int)) C.ab.length:Nat):Int))).alloc (qc (aq C.ab (k:Int)).kind (aq C.ab (k:Int)).par (.slice O (aq C.ab (k:Int)).ip.length Q) (.slice I (aq C.ab (k:Int)).kv.length J) (.slice U (aq C.ab (k:Int)).me.length V))).drew=w3 at *;obtain⟨⟨q0,q1,q2,q3,q4⟩,-⟩:=d9 Y.stays;have HR:Hid (enS C.ab (k:Int) X=if (aq C.ab (k:Int)).kind=4 then vf C.ab (aq C.ab (k:Int)).par (doS (aq C.ab (k:Int)).kv (X.ta (de X.a (k:Int)))) else doS (aq C.ab (k:Int)).kv (X.ta (de X.a (k:Int)))):=aa rfl;clear x0 x1 x2 x3 x4 x5 x6 x7 x8 x9 y4 z4 c0 c1 c2 c3 c4;go_wp2_with fail;refine(apr HF Y a0 (by omega) _ _ (ba.2.1.below Y.below) ak.1 ak.2).mono ?_;rintro e w4⟨rfl,cl,cc,cv,c7,a3⟩;have am:=aa a3;clear q0 q1 q2 q3 q4 a3;obtain⟨⟨q0,q1,q2,q3,q4⟩,-⟩:=d9 am.stays;by_cases z:(aq C.ab (k:Int)).kind=4
 . obtain⟨p,hp,b1⟩:=bf.out z;have bs:=aa (agu a0 ak.1);have a9:=aa (avr HF am bs (by omega) p b1);have al:Hid (enS C.ab (k:Int) X=vf C.ab (p:Int) (doS (aq C.ab (k:Int)).kv (X.ta (de X.a (k:Int))))):=aa (by rw[HR.out,ao z,hp]);rw[z]at q0;rw[hp]at q1;clear z hp;go_wp2_with fail;refine a9.mono ?_;rintro e w5⟨rfl,co,ci,c5,db,a4⟩;have bk:=aa a4;clear a4;go_wp2;go_end0;exact .of rfl al (bk.a61 ax (ai _))
 . have b8:((aq C.ab (k:Int)).kind==4)=false:=(by simpa using z);have al:Hid (enS C.ab (k:Int) X=doS (aq C.ab (k:Int)).kv (X.ta (de X.a (k:Int)))):=aa (by rw[HR.out,ah z]);clear z;go_wp2;go_end0;exact .of rfl al (am.a61 ax (ai _))
theorem agr(z:Fx w0 t vs vt C)(I:fz w0 M t g vs vt C w vh ve vi vo X){n:Nat}(J:ug n X)(hn:n<=8000)(P:Nat->Bool) :
 Calls prog 51 #[φ g 0,.int .u32 ((bset P C.ab.length:Nat):Int)] w (ai1 w0 M t g vs vt C (nd C.ab (λk=>P k&&!X.a k) C.ab.length X)):=by
 have a4:=z.oz.len;obtain⟨sA,a2,tA,a3,rfl,rfl⟩:=z.has.slices;have HS:=aa I;have HF:=aa z;have HX:=aa J;obtain⟨⟨x0,x1,x2,x3,x4⟩,x5,x6,x7,x8,x9⟩:=I.cells;have O:=aiz P X.a C.ab.length (by omega);obtain⟨Q,V⟩:∃Q,(λk=>P k&&!X.a k)=Q:=⟨_,rfl⟩;rw[V]at O ⊢;have HU:Hid (∀k,nd C.ab Q (k+1) X=if Q k=true then enS C.ab (k:Int) (nd C.ab Q k X) else nd C.ab Q k X):=aa λk=>rfl;have a1:Hid (∀k,ug (n+3*k) (nd C.ab Q k X)):=aa λk=>aar (λs=>(z.acts s).1.1) Q J k;have a0:Hid (nd C.ab Q 0 X=X):=aa rfl;generalize nd C.ab Q=U at *;clear z I J V;go_enter func51,ntmps51;go_wp2_with fail;go_loopw [18] (λi wr=>∃(k:Nat)(ak ad al am:Value),k<=C.ab.length/\i=ι (k:Int)/\Hid (fz w0 M t g (.slice sA C.ab.length a2) (.slice tA C.ay.length a3) C wr ak ad al am (U k X))) (λi _=>C.ab.length-(intOf i).toNat)
 case atStart=>exact ⟨0,_,_,_,_,ar _,rfl,aa (by rw[a0.out];exact HS)⟩
 case round =>
  obtain⟨k,ak,ad,al,am,hk,rfl,E⟩:=hrel;obtain⟨wo,rfl⟩:∃wo:ω,wo=wr:=⟨_,rfl⟩;clear x0 x1 x2 x3 x4 x5 x6 x7 x8 x9;by_cases W:k<C.ab.length
  . have Y:=(qg Q C.ab.length k (by omega) W).2;have y:=HU.out k;cases d:Q k with
    | false =>
     rw[d]at Y;rw[d,ah (by simp)]at y;have F:=aa y;clear d y O;go_wp2_with fail;refine(kh k (by omega) _).mono ?_;rintro e w2⟨rfl,rfl⟩;go_wp2;go_roundw
     case rel=>exact ⟨k+1,_,_,_,_,by omega,by go_num,aa (by rw[F.out];exact E)⟩
     case measure=>simp[intOf];omega
    | true =>
     rw[d]at Y;rw[d,ao rfl]at y;have F:=aa y;have av:=aa (agq HF E (a1 k) (by omega) k W);clear d y O;go_wp2_with fail;refine(kh k (by omega) _).mono ?_;rintro e w2⟨rfl,rfl⟩;go_wp2_with fail;refine av.mono ?_;rintro e w4⟨rfl,a9,a5,ba,bb,Z⟩;have ax:=aa Z;clear Z;go_wp2;go_roundw
     case rel=>exact ⟨k+1,_,_,_,_,by omega,by go_num,aa (by rw[F.out];exact ax)⟩
     case measure=>simp[intOf];omega
  . obtain rfl:k=C.ab.length:=(by omega);go_wp2;go_end0;exact .of rfl rfl E
theorem alw(y:Fx w0 t vs vt C)(d:fz w0 M t g vs vt C w vh ve vi vo X)(ak:X.au.length<=1000)(a:Int)(O:Value)(l:List Int)(J:dd w O l)(al:l.length<=1000) :
 Calls prog 52 #[φ g 0,ι a,O] w λe w'=>e=.returned (.int .u32 ((bset (ae1 C.ab X.au a l).a C.ab.length:Nat):Int))/\κ w w':=by
 have ad:=aa (apk t a vh O C X.au l w.drew (y.tree.below d.drew.below) y.chk y.few d.drew.rows.au.au ak (J.below (ag _ _).drew) al);obtain⟨⟨z,x1,x2,x3,x4⟩,E,x6,x7,x8,x9⟩:=d.cells;obtain⟨lA,am,rfl,av⟩:=br.slice J;obtain⟨Q,V,rfl⟩:=d.rows.au.slice;clear y d J;go_enter func52,ntmps52;go_wp2_with fail;refine cr (λW=>W.cell? (δ g 0)=some (φ t 0)/\W.cell? (δ g 5)=some (.slice Q X.au.length V)) [] ?_;try simp only[Act.put,sx]
 refine af 0 (φ g 0) ?_;refine af 1 (φ g 0) ?_;refine af 2 (φ g 0) ?_;refine a7 3 (φ t 0) (⟨z,E⟩) ?_;refine af 4 (φ g 0) ?_;refine af 5 (φ g 0) ?_;refine af 6 (φ g 4) ?_;refine af 7 (φ g 5) ?_;refine a7 8 (.slice Q X.au.length V) (⟨z,E⟩) ?_;refine af 9 (ι a) ?_;refine af 10 (.slice lA l.length am) ?_;try simp only[Act.put,sx]
 refine a8 11 (λK I=>?_);go_simp;refine ad.mono ?_;rintro e w2⟨rfl,U⟩;have F:Hid (κ w w2):=aa ((ag _ _).drew.trans U);have Y:=(F.cell (p:=(δ g 0)) (Lib.lt_of_cell z)).trans z;have Z:=(F.cell (p:=(δ g 5)) (Lib.lt_of_cell E)).trans E;clear U;go_simp;refine I _ _ (λ_ d=>⟨Y,Z⟩) ?_;try simp only[Act.put,sx]
 refine a8 12 (λK I=>?_);go_simp;refine I _ _ (λ_ d=>⟨Y,Z⟩) ?_;try simp only[Act.put,sx]
 refine ce ?_;go_wp2;go_ret;exact⟨rfl,F⟩
end
theorem asc(k:Int)(w:ω):Calls prog 276 #[ι k] w λe z=>e=.returned (.bool (ct k))/\w=z:=by
 go_enter func276,ntmps276;by_cases d:k=5
 . subst d;go_wp2;go_ret;exact⟨rfl,rfl⟩
 . have E:(k==5)=false:=(by simpa using d);by_cases y:k=6
   . subst y;go_wp2;go_ret;exact⟨rfl,rfl⟩
   . have F:(k==6)=false:=(by simpa using y);go_wp2;go_ret;exact⟨az (by unfold ct;simp[d,y]),rfl⟩
section
variable {w0:World} {M:Nat→Option Obj} {t g:Nat} {vs vt:Value} {C:Ch} {w:World} {vh ve vi vo:Value} {X:Se}
theorem a1v(P:Nat->Bool){n m:Nat}(I:n<=31)(F:m<n)(z:P m=true):bits .or .u32 ((bset (λk=>decide (k<m)&&P k) n:Nat):Int) ((2:Int)^m)=((bset (λk=>decide (k<m+1)&&P k) n:Nat):Int):=by
 rw[acv _ n m I F];congr 1;refine gj n λk J=>?_;unfold de;by_cases E:k=m
 . subst E;simp[z]
 . have d:decide ((k:Int)=(m:Int))=false:=(by simpa using (by omega:¬(k:Int)=m));have y:decide (k<m+1)=decide (k<m):=(by simp;omega);rw[d,y];simp
theorem a1t(P:Nat->Bool){n m:Nat}(y:P m=false):bset (λk=>decide (k<m+1)&&P k) n=bset (λk=>decide (k<m)&&P k) n:=by
 refine gj n λk E=>?_;by_cases z:k=m
 . subst z;simp[y]
 . have d:decide (k<m+1)=decide (k<m):=(by simp;omega);rw[d]
theorem ays(P:Nat->Bool)(n:Nat):bset (λk=>decide (k<0)&&P k) n=0:=by
 have:(λk=>decide (k<0)&&P k)=λ_=>false:=by funext k;simp
 rw[this];exact yb n
theorem a1u(P:Nat->Bool)(n:Nat):bset (λk=>decide (k<n)&&P k) n=bset P n:=gj n λk d=>by simp[d]
theorem al7(hF:Fx w0 t vs vt C)(E:fz w0 M t g vs vt C w vh ve vi vo X)(p:Int) :
 Calls prog 289 #[φ g 0,ι p] w λe w'=>e=.returned (.int .u32 ((bset (λk:Nat=>decide ((aq C.ab (k:Int)).par=p)&&X.a k) C.ab.length:Nat):Int))/\κ w w':=by
 have bb:=hF.oz.len;obtain⟨sA,bf,tA,bk,rfl,rfl⟩:=hF.has.slices;have HS:=aa E;have HC:=aa hF.has;obtain⟨⟨x0,x1,x2,x3,x4⟩,-⟩:=E.cells;obtain⟨P,hP⟩:∃P:Nat->Bool,(λk:Nat=>decide ((aq C.ab (k:Int)).par=p)&&X.a k)=P:=⟨_,rfl⟩;have HP:Hid (∀k,P k=(decide ((aq C.ab (k:Int)).par=p)&&X.a k)):=aa (λk=>by rw[<-hP]);rw[hP];have H0:Hid (bset (λk=>decide (k<0)&&P k) C.ab.length=0):=aa (ays P _);clear hF E hP;go_enter func289,ntmps289;go_wp2_with fail;go_loopw [5,14] (λv i wr=>∃k:Nat,k<=C.ab.length/\i=ι (k:Int)/\v=.int .u32 ((bset (λj=>decide (j<k)&&P j) C.ab.length:Nat):Int)/\κ w wr) (λ_ i _=>C.ab.length-(intOf i).toNat)
 case atStart=>exact ⟨0,ar _,rfl,by rw[H0.out];rfl,ag _ _⟩
 case round =>
  obtain⟨k,hk,rfl,rfl,I⟩:=hrel;obtain⟨O,rfl⟩:∃O:ω,O=wr:=⟨_,rfl⟩;clear x0 x1 x2 x3 x4;by_cases am:k<C.ab.length
  . obtain⟨b,o,ba,ui,ue,ux,a9,_,a4,a3,a1⟩:=HC.st am;injection a9 with e1 e2 e3;subst e1;obtain⟨c0,c1,c2,c3,c4⟩:=a3.below (HS.below.trans (I.mono HS.lt)) a4;obtain⟨iA,av,eA,al,xA,ax,rfl,rfl,rfl⟩:=a1.slices;have a2:=(qg X.a C.ab.length k (by omega) am).2;have U:=HP.out k;have ak:=λh=>a1v P (n:=C.ab.length) (m:=k) (by omega) am h;have ad:=λh=>a1t P (n:=C.ab.length) (m:=k) h;have z:=(HS.after (I.alloc I.size (qc (aq C.ab (k:Int)).kind (aq C.ab (k:Int)).par (.slice iA (aq C.ab (k:Int)).ip.length av) (.slice eA (aq C.ab (k:Int)).kv.length al) (.slice xA (aq C.ab (k:Int)).me.length ax)))).drew.cells.1.2.2.2.2;have Y:=aa (I.alloc I.size (qc (aq C.ab (k:Int)).kind (aq C.ab (k:Int)).par (.slice iA (aq C.ab (k:Int)).ip.length av) (.slice eA (aq C.ab (k:Int)).kv.length al) (.slice xA (aq C.ab (k:Int)).me.length ax)));have a0:=aa (cg.new O 59 #[ι (aq C.ab (k:Int)).kind,ι (aq C.ab (k:Int)).par,.slice iA (aq C.ab (k:Int)).ip.length av,.slice eA (aq C.ab (k:Int)).kv.length al,.slice xA (aq C.ab (k:Int)).me.length ax]).drew;generalize (aq C.ab (k:Int)).kind=K at *;generalize (aq C.ab (k:Int)).par=Q at *;generalize (aq C.ab (k:Int)).ip.length=il at *;generalize (aq C.ab (k:Int)).kv.length=el at *;generalize (aq C.ab (k:Int)).me.length=xl at *;clear a3 a1 e2 e3 I;by_cases J:Q=p
    . have a5:(Q==p)=true:=(by simpa using J);cases V:X.a k with
      | true =>
       have F:=ak (by rw[U,V];simpa using J);rw[V]at a2;have Z:=aa F;clear J V U ak ad F;go_wp2_with fail;refine cr (λW=>W.cell? (δ O.heap.size 1)=some (ι Q)/\W.cell? (δ g 4)=some (.int .u32 ((bset X.a C.ab.length:Nat):Int))) [] ?_;try simp only[Act.put,sx]
       have y:=a0.cell 1;refine af 0 (φ O.heap.size 1) ?_;refine a7 1 (ι Q) (⟨y,z⟩) ?_;refine af 2 (ι p) ?_;refine af 3 (.bool true) ?_;refine af 4 (.bool true) ?_;refine af 5 (φ g 0) ?_;refine af 6 (φ g 0) ?_;refine af 7 (φ g 4) ?_;refine af 8 (φ g 4) ?_;refine a7 9 (.int .u32 ((bset X.a C.ab.length:Nat):Int)) (⟨y,z⟩) ?_;refine af 10 (ι (k:Int)) ?_;try simp only[Act.put,sx]
       refine ng (i:=11) rfl (by kernel_rfl) (by kernel_rfl) (λK d=>?_);go_simp;refine(kh k (by omega) _).mono ?_;rintro e w2⟨rfl,rfl⟩;go_simp;refine d _ _ (λ_ E=>⟨y,z⟩) ?_;try simp only[Act.put,sx]
       refine ng (i:=12) rfl (by kernel_rfl) (by kernel_rfl) (λK d=>?_);go_simp;refine d _ _ (λ_ E=>⟨y,z⟩) ?_;try simp only[Act.put,sx]
       refine ng (i:=13) rfl (by kernel_rfl) (by kernel_rfl) (λK d=>?_);go_simp;refine d _ _ (λ_ E=>⟨y,z⟩) ?_;try simp only[Act.put,sx]
       refine af 14 (.bool true) ?_;try simp only[Act.put,sx]
       refine ce ?_;go_wp2_with fail;refine(kh k (by omega) _).mono ?_;rintro e w2⟨rfl,rfl⟩;go_wp2;go_roundw
       case rel=>exact ⟨k+1,by omega,by go_num,by rw[<-Z.out],bx Y 1⟩
       case measure=>simp[intOf];omega
      | false =>
       have F:=ad (by rw[U,V];simp);rw[V]at a2;have Z:=aa F;clear J V U ak ad F;go_wp2_with fail;refine cr (λW=>W.cell? (δ O.heap.size 1)=some (ι Q)/\W.cell? (δ g 4)=some (.int .u32 ((bset X.a C.ab.length:Nat):Int))) [] ?_;try simp only[Act.put,sx]
       have y:=a0.cell 1;refine af 0 (φ O.heap.size 1) ?_;refine a7 1 (ι Q) (⟨y,z⟩) ?_;refine af 2 (ι p) ?_;refine af 3 (.bool true) ?_;refine af 4 (.bool true) ?_;refine af 5 (φ g 0) ?_;refine af 6 (φ g 0) ?_;refine af 7 (φ g 4) ?_;refine af 8 (φ g 4) ?_;refine a7 9 (.int .u32 ((bset X.a C.ab.length:Nat):Int)) (⟨y,z⟩) ?_;refine af 10 (ι (k:Int)) ?_;try simp only[Act.put,sx]
       refine ng (i:=11) rfl (by kernel_rfl) (by kernel_rfl) (λK d=>?_);go_simp;refine(kh k (by omega) _).mono ?_;rintro e w2⟨rfl,rfl⟩;go_simp;refine d _ _ (λ_ E=>⟨y,z⟩) ?_;try simp only[Act.put,sx]
       refine ng (i:=12) rfl (by kernel_rfl) (by kernel_rfl) (λK d=>?_);go_simp;refine d _ _ (λ_ E=>⟨y,z⟩) ?_;try simp only[Act.put,sx]
       refine ng (i:=13) rfl (by kernel_rfl) (by kernel_rfl) (λK d=>?_);go_simp;refine d _ _ (λ_ E=>⟨y,z⟩) ?_;try simp only[Act.put,sx]
       refine af 14 (.bool false) ?_;try simp only[Act.put,sx]
       refine ce ?_;go_wp2;go_roundw
       case rel=>exact ⟨k+1,by omega,by go_num,by rw[Z.out],bx Y 1⟩
       case measure=>simp[intOf];omega
    . have a5:(Q==p)=false:=(by simpa using J);have F:=ad (by rw[U];simp[J]);have Z:=aa F;clear J U ak ad F;go_wp2_with fail;go_quiet (fail);go_wp2;go_roundw
      case rel=>exact ⟨k+1,by omega,by go_num,by rw[Z.out],bx Y _⟩
      case measure=>simp[intOf];omega
  . obtain rfl:k=C.ab.length:=(by omega);have Y:=aa I;go_wp2;go_ret;exact⟨by rw[a1u];rfl,Y⟩
def lvA(S:List St)(L:List Int)(p:Int)(k:Nat):Bool:=L.contains (k:Int)&&jc S (k:Int) p
theorem a8x(S:List St)(L:List Int)(p:Int){n j:Nat}(I:n<=31)(E:j<n)(z:jc S (j:Int) p=true):bits .or .u32 ((bset (lvA S L p) n:Nat):Int) ((2:Int)^j)=((bset (lvA S (L ++ [(j:Int)]) p) n:Nat):Int):=by
 rw[acv _ n j I E];congr 1;refine gj n λk J=>?_;unfold de lvA;rw[List.contains_append];by_cases F:k=j
 . subst F;simp[z]
 . have d:decide ((k:Int)=(j:Int))=false:=(by simpa using (by omega:¬(k:Int)=j));have y:[(j:Int)].contains (k:Int)=false:=(by simpa using (by omega:¬(k:Int)=j));rw[d,y];simp
theorem a8w(S:List St)(L:List Int)(p:Int){n j:Nat}(y:jc S (j:Int) p=false):bset (lvA S (L ++ [(j:Int)]) p) n=bset (lvA S L p) n:=by
 refine gj n λk E=>?_;unfold lvA;rw[List.contains_append];by_cases z:k=j
 . subst z;simp[y]
 . have d:[(j:Int)].contains (k:Int)=false:=(by simpa using (by omega:¬(k:Int)=j));rw[d];simp
theorem bbb{S:List St}{N k:Nat}(y:k<S.length):(lvL S N).contains (k:Int)=abw S N k:=by
 rw[dh,List.contains_iff_mem];unfold lvL lvU;rw[gt];constructor
 . rintro⟨j,d,z⟩;obtain rfl:j=k:=(by omega);exact(ey.1 d).2
 . intro h;exact⟨k,ey.2 ⟨dk.2 y,h⟩,rfl⟩
theorem bba{S:List St}{N:Nat}{x:Int}(h:x∈lvL S N):∃j:Nat,x=(j:Int)/\j<S.length:=by unfold lvL lvU at h;obtain⟨j,d,rfl⟩:=gt.1 h;exact⟨j,rfl,dk.1 (ey.1 d).1⟩
theorem ah4(E:Fx w0 t vs vt C)(d:fz w0 M t g vs vt C w vh ve vi vo X)(p:Int) :
 Calls prog 290 #[φ g 0,ι p] w λe w'=>e=.returned (.int .u32 ((bset (λk:Nat=>(X.a k&&ang C.ab (k:Int))&&jc C.ab (k:Int) p) C.ab.length:Nat):Int))/\κ w w':=by
 have a5:=E.oz.len;have HS:=aa d;have ak:=aa (aim t (bset X.a C.ab.length) C w.drew (E.tree.below d.drew.below) (by omega) (fy _ (by omega)));have am:Hid (bset (λk:Nat=>(X.a k&&ang C.ab (k:Int))&&jc C.ab (k:Int) p) C.ab.length=bset (lvA C.ab (lvL C.ab (bset X.a C.ab.length)) p) C.ab.length):=aa (gj _ λk hk=>by unfold lvA;rw[bbb hk];unfold abw;rw[tz k hk];rfl);have al:Hid (∀x∈lvL C.ab (bset X.a C.ab.length),∃j:Nat,x=(j:Int)/\j<C.ab.length):=aa (λx hx=>bba hx);have a2:=aa (λ(W:ω)(h:κ w0 W)(a:Int)=>adx t a p C W (E.tree.below h) (by omega) E.rooted);have a9:(lvL C.ab (bset X.a C.ab.length)).length<=24:=by unfold lvL lvU;rw[dm];exact a6 (kj _ _) (by rw[List.length_range];exact a5)
 obtain⟨L,hL⟩:∃L,lvL C.ab (bset X.a C.ab.length)=L:=⟨_,rfl⟩;rw[hL]at ak am al a9;rw[am.out];have a4:=aa d.drew;obtain⟨⟨I,-,-,-,x4⟩,-⟩:=d.drew.cells;clear E d hL;go_enter func290,ntmps290;go_wp2_with fail;refine cr (λW=>W.cell? (δ g 0)=some (φ t 0)/\W.cell? (δ g 4)=some (.int .u32 ((bset X.a C.ab.length:Nat):Int))) [] ?_;try simp only[Act.put,sx]
 refine af 0 (φ g 0) ?_;refine af 1 (φ g 0) ?_;refine af 2 (φ g 0) ?_;refine a7 3 (φ t 0) (⟨I,x4⟩) ?_;refine af 4 (φ g 0) ?_;refine af 5 (φ g 0) ?_;refine af 6 (φ g 4) ?_;refine af 7 (φ g 4) ?_;refine a7 8 (.int .u32 ((bset X.a C.ab.length:Nat):Int)) (⟨I,x4⟩) ?_;refine af 11 (ι 0) ?_;try simp only[Act.put,sx]
 refine a8 9 (λK HK=>?_);go_simp;refine ak.mono ?_;rintro e Z⟨O,v2,rfl,V⟩;obtain⟨A2,ba,rfl⟩:=cd V;have a1:Hid (κ w Z):=aa ((ag _ _).drew.trans O);have F:=aa (a4.after O);have a3:=aa (dc V);clear O V;go_simp;refine HK _ _ (λ_ d=>⟨F.cells.1.1,F.cells.1.2.2.2.2⟩) ?_;try simp only[Act.put,sx]
 refine af 10 (ι (L.length:Int)) ?_;try simp only[Act.put,sx]
 refine ce ?_;clear I x4;have ad:=aa (a2 Z F.below);obtain⟨⟨I,-,-,-,-⟩,-⟩:=F.cells;have H0:Hid (bset (lvA C.ab [] p) C.ab.length=0):=aa (by
  have:lvA C.ab [] p=λ_=>false:=by funext k;simp[lvA]
  rw[this];exact yb _)
 go_wp2_with fail;go_loopw [5,19] (λv i wr=>∃m:Nat,m<=L.length/\i=ι (m:Int)/\v=.int .u32 ((bset (lvA C.ab (L.take m) p) C.ab.length:Nat):Int)/\wr=Z) (λ_ i _=>L.length-(intOf i).toNat)
 case atStart=>exact ⟨0,ar _,rfl,by rw[List.take_zero,H0.out];rfl,rfl⟩
 case round =>
  obtain⟨m,hm,rfl,rfl,rfl⟩:=hrel;by_cases Q:m<L.length
  . obtain⟨_,_,q1,_,q3⟩:=a3.out;injection q1 with e1 e2 e3;subst e1;obtain⟨b,o,rfl,bb,hc⟩:=q3 m _ (ae Q);have c0:wr.cell? (δ b (o+m))=some (ι L[m]):=(by have:=hc;unfold d7 at this;rwa [bq]at this);have ax:L[m]∈L:=bw Q;have a0:L.take (m+1)=L.take m ++ [L[m]]:=(by rw[List.take_add_one,ae Q];rfl);generalize L[m]=x at *;obtain⟨j,rfl,hj⟩:=al.out x ax;have Y:=λh=>a8x C.ab (L.take m) p (n:=C.ab.length) (j:=j) (by omega) hj h;have U:=λh=>a8w C.ab (L.take m) p (n:=C.ab.length) (j:=j) h;have av:=aa a0;clear hc q3 e2 e3 a0 ax;cases y:jc C.ab (j:Int) p with
    | true =>
     have hu:=Y y;have z:=aa (ad (j:Int));rw[y]at z;clear Y U y;go_wp2_with fail;refine z.mono ?_;rintro e w3⟨rfl,rfl⟩;go_wp2_with fail;refine(kh j (by omega) _).mono ?_;rintro e w3⟨rfl,rfl⟩;have J:=aa hu;clear hu;go_wp2;go_roundw
     case rel=>exact ⟨m+1,by omega,by go_num,by rw[av.out,<-J.out],trivial⟩
     case measure=>simp[intOf];omega
    | false =>
     have J:=aa (U y);have z:=aa (ad (j:Int));rw[y]at z;clear Y U y;go_wp2_with fail;refine z.mono ?_;rintro e w3⟨rfl,rfl⟩;go_wp2;go_roundw
     case rel=>exact ⟨m+1,by omega,by go_num,by rw[av.out,J.out],trivial⟩
     case measure=>simp[intOf];omega
  . obtain rfl:m=L.length:=(by omega);go_wp2;go_ret;exact⟨by rw[ed];rfl,a1⟩
theorem amu(F:Fx w0 t vs vt C)(I:fz w0 M t g vs vt C w vh ve vi vo X)(h:Nat)(Y U xA:Option Addr)(il Z W V xl ad:Nat) :
 Calls prog 277 #[φ g 0,.agg #[ι (aq C.ab (h:Int)).kind,ι (aq C.ab (h:Int)).par,.slice Y il Z,.slice U W V,.slice xA xl ad]] w λe w'=>e=.returned (.int .u32 ((bset (vy C.ab X.a (h:Int)) C.ab.length:Nat):Int))/\κ w w':=by
 have z:=ap w (qc (aq C.ab (h:Int)).kind (aq C.ab (h:Int)).par (.slice Y il Z) (.slice U W V) (.slice xA xl ad));have y:=aa z;have Q:=aa (al7 F (I.after z) (aq C.ab (h:Int)).par);have ak:=aa (ah4 F (I.after z) (aq C.ab (h:Int)).par);by_cases d:(aq C.ab (h:Int)).kind=5
 . have O:Hid (bset (vy C.ab X.a (h:Int)) C.ab.length=bset (λk:Nat=>decide ((aq C.ab (k:Int)).par=(aq C.ab (h:Int)).par)&&X.a k) C.ab.length):=aa (gj _ λk _=>by unfold vy;rw[ao d]);rw[d]at y Q ⊢;rw[O.out];generalize (aq C.ab (h:Int)).par=p at *;clear F I z d;go_enter func277,ntmps277;go_wp2_with fail;refine Q.mono ?_;rintro e w2⟨rfl,E⟩;have J:=aa (y.trans (E.mono y.size));clear E;go_wp2;go_ret;exact⟨rfl,J⟩
 . have al:((aq C.ab (h:Int)).kind==5)=false:=(by simpa using d);have O:Hid (bset (vy C.ab X.a (h:Int)) C.ab.length=bset (λk:Nat=>(X.a k&&ang C.ab (k:Int))&&jc C.ab (k:Int) (aq C.ab (h:Int)).par) C.ab.length):=aa (gj _ λk _=>by unfold vy;rw[ah d]);rw[O.out];generalize (aq C.ab (h:Int)).kind=K at *;generalize (aq C.ab (h:Int)).par=p at *;clear F I z d;go_enter func277,ntmps277;go_wp2_with fail;refine ak.mono ?_;rintro e w2⟨rfl,E⟩;have J:=aa (y.trans (E.mono y.size));clear E;go_wp2;go_ret;exact⟨rfl,J⟩
end
end Go.Proofs.YtpekhdfmmkmjaaaGreatDoor
