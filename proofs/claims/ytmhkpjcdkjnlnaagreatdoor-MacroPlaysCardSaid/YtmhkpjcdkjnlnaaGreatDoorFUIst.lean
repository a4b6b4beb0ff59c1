/- The contracts of micro's do, finish, enterOne, enterAll, below. -/
import Derived.Test.YtmhkpjcdkjnlnaaGreatDoorFUIdn
import Derived.Test.YtmhkpjcdkjnlnaaGreatDoorFUHpure
namespace Go.Proofs.YtmhkpjcdkjnlnaaGreatDoor
open Go.ChangeShapes Go.WideShapes Go.ChangeAt Go.RowKit
set_option linter.unusedVariables false

theorem andNot_sets (P Q:Nat→Bool) (n:Nat) (hn:n≤31):bits .andNot .u32 ((bset P n:Nat):Int) ((bset Q n:Nat):Int)=((bset (fun k=>P k && !Q k) n:Nat):Int):=by
 have hq:=bset_u32 Q hn
 rw [u32_andNot_nat _ _ (bset_u32 P hn) hq]
 congr 1
 refine Nat.eq_of_testBit_eq fun i=>?_
 have h2:(4294967295 - bset Q n).testBit i=(decide (i < 32) && !(bset Q n).testBit i):=by
  have:=Nat.testBit_two_pow_sub_succ (x:=bset Q n) (n:=32) (by omega) i
  rw [← this]
  congr 1
  omega
 rw [Nat.testBit_and,h2,bset_test,bset_test,bset_test]
 by_cases hi:i < n
 · have:i < 32:=by omega
   simp [hi,this]
 · simp [hi]
theorem rowI_one (w:World) (x:Int):RowIs (w.alloc (.cells #[.int .i64 x] 3)) 1 (.slice (some ⟨w.heap.size,0,none⟩) 1 1) 1 [.int .i64 x] :=
 ⟨rfl,.inr ⟨⟨w.heap.size,0,none⟩,1,rfl,new_in w x _ rfl,num_one x⟩⟩
section
variable {w0:World} {M:Nat→Option Obj} {t g:Nat} {vs vt:Value} {C:Ch} {w:World} {vh ve vi vo:Value} {X:Se}
set_option maxHeartbeats 4000000 in
set_option maxRecDepth 100000 in
theorem doM_any (hF:Fx w0 t vs vt C) (hS:SeAt w0 M t g vs vt C w vh ve vi vo X) {n:Nat} (hX:Lim n X) (hn:n≤10000) (va:Value) (l:List Ac) (hA:ActsAt w va l) (hl:l.length≤40) (hx:∀ a ∈ l,a.expr.size≤1000000) :
 Calls Tryz.prog 109 #[.pointer (some ⟨g,0,none⟩),va] w (SPost w0 M t g vs vt C (doS l X)):=by
 obtain ⟨i0,hi,hz0,hz1,hz2⟩:=info_parts Tryz.info3
 obtain ⟨i1,ji,jz0,jz1,jz2⟩:=info_parts Tryz.infoOut
 have HI:=Lib.hid hi
 have HZ0:=Lib.hid hz0
 have HZ1:=Lib.hid hz1
 have HZ2:=Lib.hid hz2
 have JI:=Lib.hid ji
 have JZ0:=Lib.hid jz0
 have JZ1:=Lib.hid jz1
 have JZ2:=Lib.hid jz2
 have HS:=Lib.hid hS
 obtain ⟨⟨x0,x1,x2,x3,x4⟩,x5,x6,x7,x8,x9⟩:=hS.cells
 have HDO:=Lib.hid (do_all va ve l X.env w (hF.laid.after hS.below) hA hl hx hS.rows.env.nums hX.env hX.fit)
 have hol:=hX.out
 have hil:=hX.ins
 have hdo:=doL_out l ⟨X.env,[],[]⟩
 have hdi:=doL_ins l ⟨X.env,[],[]⟩
 simp only [List.length_nil] at hdo hdi
 obtain ⟨D,hD⟩:∃ D,doL l ⟨X.env,[],[]⟩=D:=⟨_,rfl⟩
 have HR:Hid (doS l X=⟨X.a,X.hist,D.env,X.ins ++ D.ins,X.st,X.out ++ D.out⟩):=Lib.hid (by rw [← hD]; rfl)
 rw [hD] at HDO hdo hdi
 clear hi hz0 hz1 hz2 ji jz0 jz1 jz2 hD hF hS hX hA hx
 go_enter Tryz.func109,Tryz.ntmps109
 go_wp2_with fail
 refine HDO.out.mono ?_
 rintro e w1 ⟨hb1,ve1,vo1,vi1,rfl,he1,ho1,hi1⟩
 obtain ⟨A1,cap1,rfl⟩:=OwnEnv.slice he1
 have HS1:=Lib.hid (HS.out.after hb1)
 have HB1:=Lib.hid hb1
 have hsl:=HS.out.lt
 have HS2:=Lib.hid (HS1.out.putE (RowAt.lower he1 hsl))
 have HO2:=Lib.hid (own_apart (own_lower ho1 hsl) HS1.out.blk (by decide) 6 (.slice A1 D.env.length cap1))
 have HN2:=Lib.hid (own_apart (own_lower hi1 hsl) HS1.out.blk (by decide) 6 (.slice A1 D.env.length cap1))
 have HR2:=Lib.hid (rowIs_outs (OwnOuts.outs HO2.out))
 clear x0 x1 x2 x3 x4 x5 x6 x7 x8 x9
 obtain ⟨⟨x0,x1,x2,x3,x4⟩,x5,x6,x7,x8,x9⟩:=HS1.out.cells
 obtain ⟨z4,z5,z6,z7,z8,z9⟩:=HS1.out.froz
 clear hb1 he1 ho1 hi1
 go_wp2_with (at_builtin; refine wpList_append_row3 rfl _ _ 39 rfl w0.heap.size 77 i1 (.agg #[.int .i64 0,.int .i64 0,.int .i64 0,.int .i64 0]) 4 32 Tryz.underlying39 JI.out JZ0.out JZ1.out JZ2.out rfl (by decide) _ X.out.length (X.out.flatMap ouCells) rfl HS2.out.rows.out _ D.out.length (D.out.flatMap ouCells) rfl HR2.out (Below.refl _ _) ?c3 ?c4 ?c5 ?_)
 case c3=>unfold maxLen; omega
 case c4=>omega
 case c5=>simpa using HS2.out.lt
 intro v3 w3 hown3 hgrow3 h3
 obtain ⟨A3,cap3,rfl⟩:=own_slice hown3
 have HS3:=Lib.hid (HS2.out.growO (L:=D.out) hgrow3 hown3 (by simpa using h3))
 have HB3:=Lib.hid (blk_grown HS2.out.blk HS2.out.rows.out (by decide) hgrow3)
 have HN3:=Lib.hid (own_apart (World.ownsRow.kept HN2.out hgrow3 (own_own HN2.out HS2.out.rows.out (by decide))) HB3.out (by decide) 9 (.slice A3 (X.out.length+D.out.length) cap3))
 have HR3:=Lib.hid (rowIs_ints (OwnInts.of_own HN3.out (Nat.le_refl _)).list)
 have y7:w3.cell? ⟨g,7,none⟩=some vi:=HB3.out.cell 7
 have y9:w3.cell? ⟨g,9,none⟩=some vo:=HB3.out.cell 9
 have u7:=HB3.out.frozen 7
 have u9:=HB3.out.frozen 9
 clear hown3 hgrow3 h3 x0 x1 x2 x3 x4 x5 x6 x7 x8 x9 z4 z5 z6 z7 z8 z9
 go_wp2_with (at_builtin; refine wpList_append_row3 rfl _ _ 36 rfl w0.heap.size 3 i0 (.int .i64 0) 1 8 Tryz.underlying36 HI.out HZ0.out HZ1.out HZ2.out rfl (by decide) _ X.ins.length (intVals X.ins) rfl HS3.out.rows.ins _ D.ins.length (intVals D.ins) rfl HR3.out (Below.refl _ _) ?c3 ?c4 ?c5 ?_)
 case c3=>unfold maxLen; omega
 case c4=>omega
 case c5=>simpa using HS3.out.lt
 intro v5 w5 hown5 hgrow5 h5
 obtain ⟨A5,cap5,rfl⟩:=own_slice hown5
 have HS5:=Lib.hid (HS3.out.growI (L:=D.ins) hgrow5 hown5 (by simpa using h5))
 have HB5:=Lib.hid (blk_grown HS3.out.blk HS3.out.rows.ins (by decide) hgrow5)
 have t7:w5.cell? ⟨g,7,none⟩=some vi:=HB5.out.cell 7
 have r7:=HB5.out.frozen 7
 clear hown5 hgrow5 h5 y7 y9 u7 u9
 go_wp2_with fail
 go_end0
 exact ⟨rfl,_,_,_,_,by rw [HR.out]; exact HS5.out⟩
theorem SPost.of {Y Z:Se} {e:Ending} {w':World} (he:e=.returned (.tuple #[])) (hYZ:Z=Y) {vh ve vi vo:Value} (h:SeAt w0 M t g vs vt C w' vh ve vi vo Y):SPost w0 M t g vs vt C Z e w':=⟨he,vh,ve,vi,vo,hYZ ▸ h⟩
set_option maxHeartbeats 4000000 in
set_option maxRecDepth 100000 in
theorem finish_any (hF:Fx w0 t vs vt C) (hS:SeAt w0 M t g vs vt C w vh ve vi vo X) {n:Nat} (hX:Lim n X) (hn:n≤10000) (k:Nat) (hk:k < C.sts.length) :
 Calls Tryz.prog 110 #[.pointer (some ⟨g,0,none⟩),.int .i64 (k:Int)] w (SPost w0 M t g vs vt C (finS C.sts (k:Int) X)):=by
 have hlen:=hF.tame.len
 have HS:=Lib.hid hS
 obtain ⟨⟨x0,x1,x2,x3,x4⟩,x5,x6,x7,x8,x9⟩:=hS.cells
 obtain ⟨z4,z5,z6,z7,z8,z9⟩:=hS.froz
 by_cases h0:k=0
 · subst h0
   have HR:Hid (finS C.sts ((0:Nat):Int) X=X.putSt 2):=Lib.hid (by unfold finS; rw [if_pos (by simp)])
   have HS2:=Lib.hid (HS.out.putSt 2)
   clear hF hS hX
   go_enter Tryz.func110,Tryz.ntmps110
   go_wp2_with fail
   go_end0
   exact .of rfl HR.out HS2.out
 · obtain ⟨i0,hi,hz0,hz1,hz2⟩:=info_parts Tryz.info3
   have HI:=Lib.hid hi
   have HZ0:=Lib.hid hz0
   have HZ1:=Lib.hid hz1
   have HZ2:=Lib.hid hz2
   have h0b:((k:Int) == 0)=false:=by simp; omega
   have hil:=hX.ins
   have hta:=hF.tame
   have hup:=hta.up (k:Int) (isSt_of hk) (by omega)
   have hpar:=hta.par (k:Int) (isSt_of hk)
   obtain ⟨u1,u2,u3⟩:=cUp_pos hup
   obtain ⟨p,hp⟩:∃ p:Nat,(stAt C.sts (k:Int)).par=(p:Int):=⟨(stAt C.sts (k:Int)).par.toNat,by omega⟩
   have hpk:p < C.sts.length:=by omega
   obtain ⟨sA,scap,tA,tcap,rfl,rfl⟩:=hF.has.slices
   have HF:=Lib.hid hF
   have HKD:=Lib.hid (fun (W:World) (h:Below w0.heap.size w0 W)=>kindT_any t (p:Int) C W (hF.tree.below h) (by omega))
   have hkt:kindT C.sts (p:Int)=(stAt C.sts (p:Int)).kind:=by unfold kindT; rw [if_pos (isSt_of hpk)]
   rw [hkt] at HKD
   -- the first event inside
   have HS1:=Lib.hid (HS.out.after (below_box w (.cells #[.int .i64 (2000+(k:Int))] 3)))
   have HR1:=Lib.hid (rowI_one w (2000+(k:Int)))
   obtain ⟨b,o,cap',ui,ue,ux,hsl,_,hbl,hst,hhas⟩:=hF.has.st hk
   injection hsl with e1 e2 e3
   subst e1
   have HST:=Lib.hid hst
   have HP:=Lib.hid hp
   have HDN:=Lib.hid (fun (W:World) (vh ve vi vo:Value) (Y:Se) (h:SeAt w0 M t g (.slice (some ⟨b,o,none⟩) C.sts.length scap) (.slice tA C.trs.length tcap) C W vh ve vi vo Y)=>isDone_ok HF.out (C.sts.length+1) (p:Int) W (isSt_of hpk) (by omega) h)
   have HR:Hid (finS C.sts (k:Int) X=if (stAt C.sts (p:Int)).kind=3∧doneF C.sts X.a (C.sts.length+1) (p:Int)=true then (X.addIn (2000+(k:Int))).addIn (2000+(p:Int)) else X.addIn (2000+(k:Int))):=Lib.hid (by unfold finS; rw [if_neg (by omega),hp]; rfl)
   clear hi hz0 hz1 hz2 hF hS hX hta hup hpar u1 u2 u3 hst hhas e2 e3 hp hkt
   go_enter Tryz.func110,Tryz.ntmps110
   go_wp2_with (at_builtin; refine wpList_append_row3 rfl _ _ 36 rfl w0.heap.size 3 i0 (.int .i64 0) 1 8 Tryz.underlying36 HI.out HZ0.out HZ1.out HZ2.out rfl (by decide) _ X.ins.length (intVals X.ins) rfl HS1.out.rows.ins _ 1 [.int .i64 (2000+(k:Int))] rfl HR1.out (Below.refl _ _) ?c3 ?c4 ?c5 ?_)
   case c3=>unfold maxLen; omega
   case c4=>omega
   case c5=>simpa using HS1.out.lt
   intro v3 w3 hown3 hgrow3 h3
   obtain ⟨A3,cap3,rfl⟩:=own_slice hown3
   have HS3:Hid (SeAt w0 M t g (.slice (some ⟨b,o,none⟩) C.sts.length scap) (.slice tA C.trs.length tcap) C (w3.setCell ⟨g,7,none⟩ (.slice A3 (X.ins.length+1) cap3)) vh ve (.slice A3 (X.ins.length+1) cap3) vo (X.addIn (2000+(k:Int)))):=Lib.hid (HS1.out.growI (L:=[2000+(k:Int)]) hgrow3 hown3 (by simpa using h3))
   have HB3:=Lib.hid (blk_grown HS1.out.blk HS1.out.rows.ins (by decide) hgrow3)
   have y0:w3.cell? ⟨g,0,none⟩=some (.pointer (some ⟨t,0,none⟩)):=HB3.out.cell 0
   have y2:w3.cell? ⟨g,2,none⟩=some (.slice (some ⟨b,o,none⟩) C.sts.length scap):=HB3.out.cell 2
   have y7:w3.cell? ⟨g,7,none⟩=some vi:=HB3.out.cell 7
   have r7:=HB3.out.frozen 7
   obtain ⟨c0,c1,c2,c3,c4⟩:=HST.out.below HS3.out.below hbl
   rw [HP.out] at c1
   clear hown3 hgrow3 h3 x0 x1 x2 x3 x4 x5 x6 x7 x8 x9 z4 z5 z6 z7 z8 z9
   by_cases hk3:(stAt C.sts (p:Int)).kind=3
   · rw [hk3] at HKD HR
     clear hk3
     cases hd:doneF C.sts X.a (C.sts.length+1) (p:Int) with
     | true =>
      rw [hd] at HR
      have HD:=Lib.hid hd
      clear hd
      go_wp2_with fail
      refine (HKD.out _ HS3.out.below).mono ?_
      rintro e w4 ⟨rfl,rfl⟩
      go_wp2_with fail
      refine (HDN.out _ _ _ _ _ _ HS3.out).mono ?_
      rintro e w5 ⟨rfl,hb5⟩
      have hda:doneF C.sts (X.addIn (2000+(k:Int))).a (C.sts.length+1) (p:Int)=true:=HD.out
      rw [hda]
      have HS5:=Lib.hid (HS3.out.after hb5)
      have HS6:=Lib.hid (HS5.out.after (below_box w5 (.cells #[.int .i64 (2000+(p:Int))] 3)))
      have HR6:=Lib.hid (rowI_one w5 (2000+(p:Int)))
      obtain ⟨⟨x0,x1,x2,x3,x4⟩,x5,x6,x7,x8,x9⟩:=HS5.out.cells
      clear hb5 y0 y2 y7 r7 c0 c1 c2 c3 c4 hda
      go_wp2_with (at_builtin; refine wpList_append_row3 rfl _ _ 36 rfl w0.heap.size 3 i0 (.int .i64 0) 1 8 Tryz.underlying36 HI.out HZ0.out HZ1.out HZ2.out rfl (by decide) _ (X.addIn (2000+(k:Int))).ins.length (intVals (X.addIn (2000+(k:Int))).ins) rfl HS6.out.rows.ins _ 1 [.int .i64 (2000+(p:Int))] rfl HR6.out (Below.refl _ _) ?c3 ?c4 ?c5 ?_)
      case c3=>unfold maxLen; show (X.ins ++ [_]).length+1≤_; rw [List.length_append,List.length_singleton]; omega
      case c4=>show ((X.ins ++ [_]).length+1) * 8≤_; rw [List.length_append,List.length_singleton]; omega
      case c5=>simpa using HS6.out.lt
      intro v7 w7 hown7 hgrow7 h7
      obtain ⟨A7,cap7,rfl⟩:=own_slice hown7
      have HS7:Hid (SeAt w0 M t g (.slice (some ⟨b,o,none⟩) C.sts.length scap) (.slice tA C.trs.length tcap) C (w7.setCell ⟨g,7,none⟩ (.slice A7 ((X.addIn (2000+(k:Int))).ins.length+1) cap7)) vh ve (.slice A7 ((X.addIn (2000+(k:Int))).ins.length+1) cap7) vo ((X.addIn (2000+(k:Int))).addIn (2000+(p:Int)))):=Lib.hid (HS6.out.growI (L:=[2000+(p:Int)]) hgrow7 hown7 (by simpa using h7))
      have HB7:=Lib.hid (blk_grown HS6.out.blk HS6.out.rows.ins (by decide) hgrow7)
      have y7:w7.cell? ⟨g,7,none⟩=some (.slice A3 (X.ins.length+1) cap3):=HB7.out.cell 7
      have r7:=HB7.out.frozen 7
      clear hown7 hgrow7 h7 x0 x1 x2 x3 x4 x5 x6 x7 x8 x9
      go_wp2_with fail
      go_end0
      exact .of rfl (by rw [HR.out,if_pos (by simp)]) HS7.out
     | false =>
      rw [hd] at HR
      have HD:=Lib.hid hd
      clear hd
      go_wp2_with fail
      refine (HKD.out _ HS3.out.below).mono ?_
      rintro e w4 ⟨rfl,rfl⟩
      go_wp2_with fail
      refine (HDN.out _ _ _ _ _ _ HS3.out).mono ?_
      rintro e w5 ⟨rfl,hb5⟩
      have hda:doneF C.sts (X.addIn (2000+(k:Int))).a (C.sts.length+1) (p:Int)=false:=HD.out
      rw [hda]
      have HS5:=Lib.hid (HS3.out.after hb5)
      clear hb5 y0 y2 y7 r7 c0 c1 c2 c3 c4 hda
      go_wp2_with fail
      go_end0
      exact .of rfl (by rw [HR.out,if_neg (by simp)]) HS5.out
   · have hk3b:((stAt C.sts (p:Int)).kind == 3)=false:=by simpa using hk3
     have HR2:Hid (finS C.sts (k:Int) X=X.addIn (2000+(k:Int))):=Lib.hid (by rw [HR.out,if_neg (fun h=>hk3 h.1)])
     generalize (stAt C.sts (p:Int)).kind=K at *
     clear hk3 HR
     go_wp2_with fail
     refine (HKD.out _ HS3.out.below).mono ?_
     rintro e w4 ⟨rfl,rfl⟩
     go_wp2_with fail
     go_end0
     exact .of rfl HR2.out HS3.out
set_option maxHeartbeats 4000000 in
set_option maxRecDepth 100000 in
theorem enterOne_any (hF:Fx w0 t vs vt C) (hS:SeAt w0 M t g vs vt C w vh ve vi vo X) {n:Nat} (hX:Lim n X) (hn:n≤9000) (k:Nat) (hk:k < C.sts.length) :
 Calls Tryz.prog 67 #[.pointer (some ⟨g,0,none⟩),.int .i64 (k:Int)] w (SPost w0 M t g vs vt C (enS C.sts (k:Int) X)):=by
 have hlen:=hF.tame.len
 have hta:=hF.tame
 obtain ⟨sA,scap,tA,tcap,rfl,rfl⟩:=hF.has.slices
 have HS:=Lib.hid hS
 have HF:=Lib.hid hF
 obtain ⟨⟨x0,x1,x2,x3,x4⟩,x5,x6,x7,x8,x9⟩:=hS.cells
 have hor:=or_add X.a C.sts.length k (by omega) hk
 obtain ⟨b,o,cap',ui,ue,ux,hsl,_,hbl,hst,hhas⟩:=hF.has.st hk
 injection hsl with e1 e2 e3
 subst e1
 obtain ⟨c0,c1,c2,c3,c4⟩:=hst.below hS.below hbl
 have HHAS:=Lib.hid hhas
 obtain ⟨iA,icap,eA,ecap,xA,xcap,rfl,rfl,rfl⟩:=hhas.slices
 have HEX:=Lib.hid (hF.acts (k:Int)).1
 have HBX:=Lib.hid (Blk.new w 63 #[.int .i64 (stAt C.sts (k:Int)).kind,.int .i64 (stAt C.sts (k:Int)).par,.slice iA (stAt C.sts (k:Int)).ini.length icap,.slice eA (stAt C.sts (k:Int)).ent.length ecap,.slice xA (stAt C.sts (k:Int)).exi.length xcap])
 have HS1:=Lib.hid (HS.out.after (below_box w (stBox (stAt C.sts (k:Int)).kind (stAt C.sts (k:Int)).par (.slice iA (stAt C.sts (k:Int)).ini.length icap) (.slice eA (stAt C.sts (k:Int)).ent.length ecap) (.slice xA (stAt C.sts (k:Int)).exi.length xcap))))
 have hgl:g < w.heap.size:=hS.blk.lt
 have HX1:=Lib.hid (putA_lim hX (addS X.a (k:Int)))
 have HOR:=Lib.hid hor
 have hpar:(stAt C.sts (k:Int)).kind=4→∃ p:Nat,(stAt C.sts (k:Int)).par=(p:Int)∧p < C.sts.length:=fun h4=>by
  have hk0:0 < (k:Int):=by
   rcases Nat.eq_zero_or_pos k with h | h
   · subst h
     have:=hta.first
     rw [show (((0:Nat):Int))=0 from rfl,this] at h4
     omega
   · omega
  have hup:=hta.up (k:Int) (isSt_of hk) hk0
  have hp:=hta.par (k:Int) (isSt_of hk)
  obtain ⟨u1,u2,u3⟩:=cUp_pos hup
  exact ⟨(stAt C.sts (k:Int)).par.toNat,by omega,by omega⟩
 have HPAR:=Lib.hid hpar
 clear hF hS hX hta hst hhas e2 e3 hor hpar
 go_enter Tryz.func67,Tryz.ntmps67
 go_wp2_with fail
 refine anyD_start (fun W=>W.cell? ⟨g,4,none⟩=some (.int .u32 ((bset X.a C.sts.length:Nat):Int))) (fun i=>[11].contains i) (by kernel_rfl) ?_
 try simp only [Act.put,sx]
 refine anyD_t 0 (.pointer (some ⟨g,0,none⟩)) ?_
 try simp only [Act.put,sx]
 refine anyD_t 1 (.pointer (some ⟨g,0,none⟩)) ?_
 try simp only [Act.put,sx]
 refine anyD_t 2 (.pointer (some ⟨g,4,none⟩)) ?_
 try simp only [Act.put,sx]
 refine anyD_t 3 (.pointer (some ⟨g,4,none⟩)) ?_
 try simp only [Act.put,sx]
 refine anyD_l 4 (.int .u32 ((bset X.a C.sts.length:Nat):Int)) (HS1.out.drew.cells.1.2.2.2.2) ?_
 try simp only [Act.put,sx]
 refine anyD_t 5 (.int .i64 (k:Int)) ?_
 try simp only [Act.put,sx]
 refine anyD_one (i:=6) rfl rfl (by kernel_rfl) (fun K HK=>?_)
 go_simp
 refine (bitM_any k (by omega) _).mono ?_
 rintro e w2 ⟨rfl,rfl⟩
 go_simp
 refine HK.out _ _ (fun _ hS=>HS1.out.drew.cells.1.2.2.2.2) ?_
 clear HK K
 try simp only [Act.put,sx]
 refine anyD_one (i:=7) rfl rfl (by kernel_rfl) (fun K HK=>?_)
 go_simp
 rw [HOR.out]
 refine HK.out _ _ (fun _ hS=>HS1.out.drew.cells.1.2.2.2.2) ?_
 clear HK K
 try simp only [Act.put,sx]
 have y4:=HS1.out.drew.cells.1.2.2.2.2
 have z4:=HS1.out.drew.froz.1
 refine anyD_t 8 (.pointer (some ⟨g,0,none⟩)) ?_
 try simp only [Act.put,sx]
 refine anyD_t 9 (.pointer (some ⟨g,4,none⟩)) ?_
 try simp only [Act.put,sx]
 refine anyD_t 10 (.pointer (some ⟨g,4,none⟩)) ?_
 try simp only [Act.put,sx]
 refine anyD_one (i:=11) rfl rfl (by kernel_rfl) (fun K HK=>?_)
 go_simp
 go_simp
 refine HK.out _ _ (fun h=>absurd h (by decide)) ?_
 clear HK K
 try simp only [Act.put,sx]
 refine anyD_done (by kernel_rfl) ?_
 have hsz:(w.setCell ⟨g,4,none⟩ (.int .u32 ((bset (addS X.a (k:Int)) C.sts.length:Nat):Int))).heap.size=w.heap.size:=by simp
 have HS2:=Lib.hid (((HS.out.putA (addS X.a (k:Int))).after (below_box (w.setCell ⟨g,4,none⟩ (.int .u32 ((bset (addS X.a (k:Int)) C.sts.length:Nat):Int))) (stBox (stAt C.sts (k:Int)).kind (stAt C.sts (k:Int)).par (.slice iA (stAt C.sts (k:Int)).ini.length icap) (.slice eA (stAt C.sts (k:Int)).ent.length ecap) (.slice xA (stAt C.sts (k:Int)).exi.length xcap)))).drew.also (Blk.new (w.setCell ⟨g,4,none⟩ (.int .u32 ((bset (addS X.a (k:Int)) C.sts.length:Nat):Int))) 63 #[.int .i64 (stAt C.sts (k:Int)).kind,.int .i64 (stAt C.sts (k:Int)).par,.slice iA (stAt C.sts (k:Int)).ini.length icap,.slice eA (stAt C.sts (k:Int)).ent.length ecap,.slice xA (stAt C.sts (k:Int)).exi.length xcap]).drew (by decide) (by decide) (by decide) (by decide))
 rw [hsz] at HS2
 have HL2:=Lib.hid (HS.out.after (Below.refl _ _))
 generalize ((w.setCell ⟨g,4,none⟩ (.int .u32 ((bset (addS X.a (k:Int)) C.sts.length:Nat):Int))).alloc (stBox (stAt C.sts (k:Int)).kind (stAt C.sts (k:Int)).par (.slice iA (stAt C.sts (k:Int)).ini.length icap) (.slice eA (stAt C.sts (k:Int)).ent.length ecap) (.slice xA (stAt C.sts (k:Int)).exi.length xcap))).drew=w3 at *
 obtain ⟨⟨q0,q1,q2,q3,q4⟩,-⟩:=blk5_facts HS2.out.stays
 have HR:Hid (enS C.sts (k:Int) X=if (stAt C.sts (k:Int)).kind=4 then finS C.sts (stAt C.sts (k:Int)).par (doS (stAt C.sts (k:Int)).ent (X.putA (addS X.a (k:Int)))) else doS (stAt C.sts (k:Int)).ent (X.putA (addS X.a (k:Int)))):=Lib.hid rfl
 clear x0 x1 x2 x3 x4 x5 x6 x7 x8 x9 y4 z4 c0 c1 c2 c3 c4
 go_wp2_with fail
 refine (doM_any HF.out HS2.out HX1.out (by omega) _ _ (HHAS.out.2.1.below HS2.out.below) HEX.out.1 HEX.out.2).mono ?_
 rintro e w4 ⟨rfl,vh4,ve4,vi4,vo4,hs4⟩
 have HS4:=Lib.hid hs4
 clear q0 q1 q2 q3 q4 hs4
 obtain ⟨⟨q0,q1,q2,q3,q4⟩,-⟩:=blk5_facts HS4.out.stays
 by_cases hk4:(stAt C.sts (k:Int)).kind=4
 · obtain ⟨p,hp,hpl⟩:=HPAR.out hk4
   have HXD:=Lib.hid (doS_lim HX1.out HEX.out.1)
   have HFI:=Lib.hid (finish_any HF.out HS4.out HXD.out (by omega) p hpl)
   have HR2:Hid (enS C.sts (k:Int) X=finS C.sts (p:Int) (doS (stAt C.sts (k:Int)).ent (X.putA (addS X.a (k:Int))))):=Lib.hid (by rw [HR.out,if_pos hk4,hp])
   rw [hk4] at q0
   rw [hp] at q1
   clear hk4 hp HPAR
   go_wp2_with fail
   refine HFI.out.mono ?_
   rintro e w5 ⟨rfl,vh5,ve5,vi5,vo5,hs5⟩
   have HS5:=Lib.hid hs5
   clear hs5
   go_wp2_with fail
   go_end0
   exact .of rfl HR2.out (HS5.out.less1 HL2.out (Nat.le_refl _))
 · have hk4b:((stAt C.sts (k:Int)).kind == 4)=false:=by simpa using hk4
   have HR2:Hid (enS C.sts (k:Int) X=doS (stAt C.sts (k:Int)).ent (X.putA (addS X.a (k:Int)))):=Lib.hid (by rw [HR.out,if_neg hk4])
   clear hk4
   go_wp2_with fail
   go_end0
   exact .of rfl HR2.out (HS4.out.less1 HL2.out (Nat.le_refl _))
set_option maxHeartbeats 4000000 in
set_option maxRecDepth 100000 in
theorem enterAll_any (hF:Fx w0 t vs vt C) (hS:SeAt w0 M t g vs vt C w vh ve vi vo X) {n:Nat} (hX:Lim n X) (hn:n≤8000) (P:Nat→Bool) :
 Calls Tryz.prog 68 #[.pointer (some ⟨g,0,none⟩),.int .u32 ((bset P C.sts.length:Nat):Int)] w (SPost w0 M t g vs vt C (entU C.sts (fun k=>P k && !X.a k) C.sts.length X)):=by
 have hlen:=hF.tame.len
 obtain ⟨sA,scap,tA,tcap,rfl,rfl⟩:=hF.has.slices
 have HS:=Lib.hid hS
 have HF:=Lib.hid hF
 have HX:=Lib.hid hX
 obtain ⟨⟨x0,x1,x2,x3,x4⟩,x5,x6,x7,x8,x9⟩:=hS.cells
 have hand:=andNot_sets P X.a C.sts.length (by omega)
 obtain ⟨Q,hQ⟩:∃ Q,(fun k=>P k && !X.a k)=Q:=⟨_,rfl⟩
 rw [hQ] at hand ⊢
 have HU:Hid (∀ k,entU C.sts Q (k+1) X=if Q k=true then enS C.sts (k:Int) (entU C.sts Q k X) else entU C.sts Q k X):=Lib.hid fun k=>rfl
 have HUL:Hid (∀ k,Lim (n+3 * k) (entU C.sts Q k X)):=Lib.hid fun k=>entU_lim (fun s=>(hF.acts s).1.1) Q hX k
 have HU0:Hid (entU C.sts Q 0 X=X):=Lib.hid rfl
 generalize entU C.sts Q=U at *
 clear hF hS hX hQ
 go_enter Tryz.func68,Tryz.ntmps68
 go_wp2_with fail
 go_loopw [18] (fun i wr=>∃ (k:Nat) (vh2 ve2 vi2 vo2:Value),k≤C.sts.length∧i=.int .i64 (k:Int)∧Hid (SeAt w0 M t g (.slice sA C.sts.length scap) (.slice tA C.trs.length tcap) C wr vh2 ve2 vi2 vo2 (U k X))) (fun i _=>C.sts.length - (intOf i).toNat)
 case atStart=>exact ⟨0,_,_,_,_,Nat.zero_le _,rfl,Lib.hid (by rw [HU0.out]; exact HS.out)⟩
 case round =>
  obtain ⟨k,vh2,ve2,vi2,vo2,hk,rfl,HSK⟩:=hrel
  obtain ⟨wo,rfl⟩:∃ wo:World,wo=wr:=⟨_,rfl⟩
  clear x0 x1 x2 x3 x4 x5 x6 x7 x8 x9
  by_cases hlt:k < C.sts.length
  · have hne:=(and_test Q C.sts.length k (by omega) hlt).2
    have hu:=HU.out k
    cases hq:Q k with
    | false =>
     rw [hq] at hne
     rw [hq,if_neg (by simp)] at hu
     have HUK:=Lib.hid hu
     clear hq hu hand
     go_wp2_with fail
     refine (bitM_any k (by omega) _).mono ?_
     rintro e w2 ⟨rfl,rfl⟩
     go_wp2_with fail
     go_roundw
     case rel=>exact ⟨k+1,_,_,_,_,by omega,by go_num,Lib.hid (by rw [HUK.out]; exact HSK.out)⟩
     case measure=>simp [intOf]; omega
    | true =>
     rw [hq] at hne
     rw [hq,if_pos rfl] at hu
     have HUK:=Lib.hid hu
     have HEN:=Lib.hid (enterOne_any HF.out HSK.out (HUL.out k) (by omega) k hlt)
     clear hq hu hand
     go_wp2_with fail
     refine (bitM_any k (by omega) _).mono ?_
     rintro e w2 ⟨rfl,rfl⟩
     go_wp2_with fail
     refine HEN.out.mono ?_
     rintro e w4 ⟨rfl,vh4,ve4,vi4,vo4,hs4⟩
     have HS4:=Lib.hid hs4
     clear hs4
     go_wp2_with fail
     go_roundw
     case rel=>exact ⟨k+1,_,_,_,_,by omega,by go_num,Lib.hid (by rw [HUK.out]; exact HS4.out)⟩
     case measure=>simp [intOf]; omega
  · obtain rfl:k=C.sts.length:=by omega
    go_wp2_with fail
    go_end0
    exact .of rfl rfl HSK.out
set_option maxHeartbeats 4000000 in
set_option maxRecDepth 100000 in
theorem below_anyM (hF:Fx w0 t vs vt C) (hS:SeAt w0 M t g vs vt C w vh ve vi vo X) (hHl:X.hist.length≤1000) (a:Int) (vl:Value) (l:List Int) (hv:ListAt w vl l) (hll:l.length≤1000) :
 Calls Tryz.prog 69 #[.pointer (some ⟨g,0,none⟩),.int .i64 a,vl] w fun e w'=>e=.returned (.int .u32 ((bset (pSet C.sts X.hist a l).a C.sts.length:Nat):Int))∧Below w.heap.size w w':=by
 have HES:=Lib.hid (enterSet_any t a vh vl C X.hist l w.drew (hF.tree.below hS.drew.below) hF.chk hF.few hS.drew.rows.hist.hist hHl (hv.below (Below.refl _ _).drew) hll)
 obtain ⟨⟨x0,x1,x2,x3,x4⟩,x5,x6,x7,x8,x9⟩:=hS.cells
 obtain ⟨lA,lcap,rfl,hlcap⟩:=RowsAt.slice hv
 obtain ⟨hA,hcap,rfl⟩:=hS.rows.hist.slice
 clear hF hS hv
 go_enter Tryz.func69,Tryz.ntmps69
 go_wp2_with fail
 refine anyD_start (fun W=>W.cell? ⟨g,0,none⟩=some (.pointer (some ⟨t,0,none⟩))∧W.cell? ⟨g,5,none⟩=some (.slice hA X.hist.length hcap)) (fun i=>[].contains i) (by kernel_rfl) ?_
 try simp only [Act.put,sx]
 refine anyD_t 0 (.pointer (some ⟨g,0,none⟩)) ?_
 try simp only [Act.put,sx]
 refine anyD_t 1 (.pointer (some ⟨g,0,none⟩)) ?_
 try simp only [Act.put,sx]
 refine anyD_t 2 (.pointer (some ⟨g,0,none⟩)) ?_
 try simp only [Act.put,sx]
 refine anyD_l 3 (.pointer (some ⟨t,0,none⟩)) (⟨x0,x5⟩) ?_
 try simp only [Act.put,sx]
 refine anyD_t 4 (.pointer (some ⟨g,0,none⟩)) ?_
 try simp only [Act.put,sx]
 refine anyD_t 5 (.pointer (some ⟨g,0,none⟩)) ?_
 try simp only [Act.put,sx]
 refine anyD_t 6 (.pointer (some ⟨g,4,none⟩)) ?_
 try simp only [Act.put,sx]
 refine anyD_t 7 (.pointer (some ⟨g,5,none⟩)) ?_
 try simp only [Act.put,sx]
 refine anyD_l 8 (.slice hA X.hist.length hcap) (⟨x0,x5⟩) ?_
 try simp only [Act.put,sx]
 refine anyD_t 9 (.int .i64 a) ?_
 try simp only [Act.put,sx]
 refine anyD_t 10 (.slice lA l.length lcap) ?_
 try simp only [Act.put,sx]
 refine anyD_one (i:=11) rfl rfl (by kernel_rfl) (fun K HK=>?_)
 go_simp
 refine HES.out.mono ?_
 rintro e w2 ⟨rfl,hb2⟩
 have HB2:Hid (Below w.heap.size w w2):=Lib.hid ((Below.refl _ _).drew.trans hb2)
 have y0:=(HB2.out.cell (p:=⟨g,0,none⟩) (Lib.lt_of_cell x0)).trans x0
 have y5:=(HB2.out.cell (p:=⟨g,5,none⟩) (Lib.lt_of_cell x5)).trans x5
 clear hb2
 go_simp
 refine HK.out _ _ (fun _ hS=>⟨y0,y5⟩) ?_
 clear HK K
 try simp only [Act.put,sx]
 refine anyD_one (i:=12) rfl rfl (by kernel_rfl) (fun K HK=>?_)
 go_simp
 refine HK.out _ _ (fun _ hS=>⟨y0,y5⟩) ?_
 clear HK K
 try simp only [Act.put,sx]
 refine anyD_done (by kernel_rfl) ?_
 go_wp2_with fail
 go_ret
 exact ⟨rfl,HB2.out⟩
end
end Go.Proofs.YtmhkpjcdkjnlnaaGreatDoor
