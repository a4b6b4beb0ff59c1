/- The contracts of macro's Start and Take. -/
import Derived.Test.YtmhkpjcdkjnlnaaGreatDoorFUUst
namespace Go.Proofs.YtmhkpjcdkjnlnaaGreatDoor
open Go.ChangeShapes Go.WideShapes Go.ChangeAt Go.RowKit
set_option linter.unusedVariables false

theorem MwAt.lower {B B':Nat} {w:World} {vh ve vi vo:Value} {X:Se} (h:MwAt B w vh ve vi vo X) (hB:B'≤B):MwAt B' w vh ve vi vo X:=⟨h.hist.lower hB,RowAt.lower h.env hB,h.ins.base hB,own_base h.out hB⟩
theorem MwAt.run {B n:Nat} {w:World} {vh ve vi vo:Value} {X:Se} (h:MwAt B w vh ve vi vo X):RunAt w n (.agg #[.int .u32 ((bset X.a n:Nat):Int),vh,ve,vi,.int .i64 X.st]) X:=⟨_,_,_,rfl,h.hist.hist,OwnEnv.nums h.env,h.ins.list⟩
theorem MwAt.outs {B:Nat} {w:World} {vh ve vi vo:Value} {X:Se} (h:MwAt B w vh ve vi vo X):OutsAt w vo X.out:=OwnOuts.outs h.out
def TkPost (C:Ch) (Y:Se) (w:World) (e:Ending) (w':World):Prop:=Below w.heap.size w w'∧∃ vh ve vi vo,e=.returned (.tuple #[.agg #[.int .u32 ((bset Y.a C.sts.length:Nat):Int),vh,ve,vi,.int .i64 Y.st],vo])∧MwAt w.heap.size w' vh ve vi vo Y
section
variable {w0:World} {t g:Nat} {C:Ch} {w:World} {vh ve vi vo:Value} {X:Se} {f:Nat}
theorem MsAt.run_else_at {b:Nat} {cs:Array Value} (h:MsAt w0 t g C w vh ve vi vo X f) (hb:Blk w b 38 cs) (a0 a1 a2 a3 a4:Value) :
 (((set5 w b 0 a0 a1 a2 a3 a4).cell? ⟨g,1,none⟩=some (.int .u32 ((bset X.a C.sts.length:Nat):Int))∧(set5 w b 0 a0 a1 a2 a3 a4).cell? ⟨g,2,none⟩=some vh∧(set5 w b 0 a0 a1 a2 a3 a4).cell? ⟨g,3,none⟩=some ve∧(set5 w b 0 a0 a1 a2 a3 a4).cell? ⟨g,4,none⟩=some vi∧(set5 w b 0 a0 a1 a2 a3 a4).cell? ⟨g,5,none⟩=some (.int .i64 X.st)∧(set5 w b 0 a0 a1 a2 a3 a4).cell? ⟨g,7,none⟩=some vo)) ∧
 MwAt w0.heap.size (set5 w b 0 a0 a1 a2 a3 a4) vh ve vi vo X:=by
 have hne:g ≠ b:=Ne.symm (blk_neT hb h.blk (by decide))
 have k1:=hb.set_ 0 a0
 have k2:=k1.set_ 1 a1
 have k3:=k2.set_ 2 a2
 have k4:=k3.set_ 3 a3
 have hg:=((((h.blk.set_ne hne 0 a0).set_ne hne 1 a1).set_ne hne 2 a2).set_ne hne 3 a3).set_ne hne 4 a4
 have hr:=((((h.rows.apart hb (by decide) (by decide) (by decide) (by decide) 0 a0).apart k1 (by decide) (by decide) (by decide) (by decide) 1 a1).apart k2 (by decide) (by decide) (by decide) (by decide) 2 a2).apart k3 (by decide) (by decide) (by decide) (by decide) 3 a3).apart k4 (by decide) (by decide) (by decide) (by decide) 4 a4
 exact ⟨⟨hg.cell 1,hg.cell 2,hg.cell 3,hg.cell 4,hg.cell 5,hg.cell 7⟩,hr⟩
theorem fst_out {C:Ch} (hC:Chk C):(fstS C).out.length≤5000:=by
 have hlm:Lim 3 (enS C.sts 0 (beg C)):=enS_lim hC.few.ent 0 (beg_lim (vars_of hC.chk))
 have hlm2:Lim (3+3 * C.sts.length) (fstS C):=entU_lim hC.few.ent _ hlm _
 have:=hlm2.out
 have:=(tame_of hC.chk).len
 omega
theorem MsAt.init {w1 w3:World} {c1 c2 c3 c4 c5 c7:Value} {Y:Se} (hb:Below w1.heap.size w1 w3) (hg:w1.heap.size≤g) (hG:Blk w3 g 72 #[.pointer (some ⟨t,0,none⟩),c1,c2,c3,c4,c5,.int .i64 (f:Int),c7]) (hr:RwAt w1.heap.size w3 vh ve vi vo Y) :
 MsAt w1 t g C ((set5 w3 g 1 (.int .u32 ((bset Y.a C.sts.length:Nat):Int)) vh ve vi (.int .i64 Y.st)).setCell ⟨g,7,none⟩ vo) vh ve vi vo Y f:=by
 have hr':=hr.run_else (k:=1) hG (by decide) (by decide) (by decide) (by decide) (.int .u32 ((bset Y.a C.sts.length:Nat):Int)) vh ve vi (.int .i64 Y.st)
 have hG':Blk (set5 w3 g 1 (.int .u32 ((bset Y.a C.sts.length:Nat):Int)) vh ve vi (.int .i64 Y.st)) g 72 _:=((((hG.set_ 1 _).set_ 2 _).set_ 3 _).set_ 4 _).set_ 5 _
 exact ⟨(((((hb.setCell (p:=⟨g,1,none⟩) hg _).setCell (p:=⟨g,2,none⟩) hg _).setCell (p:=⟨g,3,none⟩) hg _).setCell (p:=⟨g,4,none⟩) hg _).setCell (p:=⟨g,5,none⟩) hg _).setCell (p:=⟨g,7,none⟩) hg _,hg,hG'.set_ 7 vo,(MwAt.of hr').apart hG' (by decide) (by decide) (by decide) (by decide) 7 vo⟩
set_option maxHeartbeats 4000000 in
set_option maxRecDepth 100000 in
theorem mstart_any (hL:Laid w) (hT:TreeAt w t C) (hC:Chk C):Calls Tryz.prog 9 #[.pointer (some ⟨t,0,none⟩)] w (TkPost C (startS C) w):=by
 have hb0:=below_box w (.cells #[.int .u32 0,.slice none 0 0,.slice none 0 0,.slice none 0 0,.int .i64 0] 38)
 have HB1:=Lib.hid hb0
 have HRB:=Lib.hid (Blk.new w 38 #[.int .u32 0,.slice none 0 0,.slice none 0 0,.slice none 0 0,.int .i64 0])
 have HL:=Lib.hid (hL.after hb0)
 have HT:=Lib.hid (hT.below hb0)
 have HC:=Lib.hid hC
 have hw1:(w.alloc (.cells #[.int .u32 0,.slice none 0 0,.slice none 0 0,.slice none 0 0,.int .i64 0] 38)).heap.size=w.heap.size+1:=by simp
 have HW1:=Lib.hid hw1
 obtain ⟨Z,hZ⟩:∃ Z,startS C=Z:=⟨_,rfl⟩
 have HZ:=Lib.hid hZ
 rw [hZ]
 clear hL hT hC hb0 hZ
 go_enter Tryz.func9,Tryz.ntmps9
 go_wp2_with fail
 have HG2:=Lib.hid (Blk.new (w.alloc (.cells #[.int .u32 0,.slice none 0 0,.slice none 0 0,.slice none 0 0,.int .i64 0] 38)) 72 #[.pointer (some ⟨t,0,none⟩),.int .u32 0,.slice none 0 0,.slice none 0 0,.slice none 0 0,.int .i64 0,.int .i64 ((40:Nat):Int),.slice none 0 0])
 have HB2:=Lib.hid (below_box (w.alloc (.cells #[.int .u32 0,.slice none 0 0,.slice none 0 0,.slice none 0 0,.int .i64 0] 38)) (.cells #[.pointer (some ⟨t,0,none⟩),.int .u32 0,.slice none 0 0,.slice none 0 0,.slice none 0 0,.int .i64 0,.int .i64 40,.slice none 0 0] 72))
 rw [hw1] at HG2
 clear hw1
 generalize w.alloc (.cells #[.int .u32 0,.slice none 0 0,.slice none 0 0,.slice none 0 0,.int .i64 0] 38)=w1 at *
 have HG2':Hid (Blk (w1.alloc (.cells #[.pointer (some ⟨t,0,none⟩),.int .u32 0,.slice none 0 0,.slice none 0 0,.slice none 0 0,.int .i64 0,.int .i64 40,.slice none 0 0] 72)) (w.heap.size+1) 72 #[.pointer (some ⟨t,0,none⟩),.int .u32 0,.slice none 0 0,.slice none 0 0,.slice none 0 0,.int .i64 0,.int .i64 ((40:Nat):Int),.slice none 0 0]):=HG2
 clear HG2
 generalize w1.alloc (.cells #[.pointer (some ⟨t,0,none⟩),.int .u32 0,.slice none 0 0,.slice none 0 0,.slice none 0 0,.int .i64 0,.int .i64 40,.slice none 0 0] 72)=w2 at *
 generalize w.heap.size+1=g at *
 refine (mfirst_any t C w2 (HL.out.after HB2.out) (HT.out.below HB2.out) HC.out.chk HC.out.fewB).mono ?_
 rintro e w3 ⟨hb3,v3,vo3,rfl,vh3,ve3,vi3,rfl,hr3⟩
 obtain ⟨hA3,hcap3,rfl⟩:=hr3.hist.slice
 obtain ⟨eA3,ecap3,rfl⟩:=OwnEnv.slice hr3.env
 obtain ⟨iA3,icap3,rfl⟩:=own_slice hr3.ins
 obtain ⟨oA3,ocap3,rfl⟩:=own_slice hr3.out
 have HG3:=Lib.hid (HG2'.out.below hb3 HG2'.out.lt)
 have HM:=Lib.hid (MsAt.init (C:=C) (HB2.out.trans (hb3.mono HB2.out.size)) (Nat.le_of_eq HW1.out) HG3.out (hr3.lower HB2.out.size))
 simp only [set5,Nat.reduceAdd] at HM
 have HOB:Hid (Okb C (fstS C) 40):=Lib.hid ⟨fst_ok HC.out,Nat.le_refl _,by have:=fst_out HC.out; omega⟩
 generalize hY:fstS C=Y at *
 have HY:=Lib.hid hY
 have c1:=HG3.out.cell 1
 have c2:=HG3.out.cell 2
 have c3:=HG3.out.cell 3
 have c4:=HG3.out.cell 4
 have c5:=HG3.out.cell 5
 have c7:=HG3.out.cell 7
 have f1:=HG3.out.frozen 1
 have f2:=HG3.out.frozen 2
 have f3:=HG3.out.frozen 3
 have f4:=HG3.out.frozen 4
 have f5:=HG3.out.frozen 5
 have f7:=HG3.out.frozen 7
 clear hb3 hr3 HG2' HG3 hY
 go_wp2_with fail
 refine (settle_any HL.out HT.out HC.out HM.out HOB.out (k:=42) ⟨fun _=>by decide,by decide⟩).mono ?_
 rintro e w9 ⟨rfl,f9,vh9,ve9,vi9,vo9,hs9,-⟩
 have HSZ:Hid (MsAt w1 t g C w9 vh9 ve9 vi9 vo9 Z f9):=Lib.hid (by rw [← HZ.out]; unfold startS; rw [HY.out]; exact hs9)
 clear hs9 HM HOB c1 c2 c3 c4 c5 c7 f1 f2 f3 f4 f5 f7 HB2 HW1
 have HSD:=Lib.hid HSZ.out.drew
 have HRD9:=Lib.hid ((HRB.out.below HSZ.out.below HRB.out.lt).drew)
 obtain ⟨hA9,hcap9,rfl⟩:=HSD.out.rows.hist.slice
 obtain ⟨eA9,ecap9,rfl⟩:=OwnEnv.slice HSD.out.rows.env
 obtain ⟨iA9,icap9,rfl⟩:=HSD.out.rows.ins.slice
 obtain ⟨oA9,ocap9,rfl⟩:=own_slice HSD.out.rows.out
 clear HSZ
 go_wp2_with fail
 refine anyD_start (fun W=>(W.cell? ⟨g,1,none⟩=some (.int .u32 ((bset Z.a C.sts.length:Nat):Int))∧W.cell? ⟨g,2,none⟩=some (.slice hA9 Z.hist.length hcap9)∧W.cell? ⟨g,3,none⟩=some (.slice eA9 Z.env.length ecap9)∧W.cell? ⟨g,4,none⟩=some (.slice iA9 Z.ins.length icap9)∧W.cell? ⟨g,5,none⟩=some (.int .i64 Z.st))∧W.cell? ⟨g,7,none⟩=some (.slice oA9 Z.out.length ocap9)) (fun i=>[].contains i) (by kernel_rfl) ?_
 try simp only [Act.put,sx]
 generalize w9.drew=w10 at *
 obtain ⟨x0,x1,x2,x3,x4,x5,x6,x7⟩:=HSD.out.cells
 obtain ⟨⟨p0,p1,p2,p3,p4⟩,q0,q1,q2,q3,q4⟩:=blk5_facts HRD9.out
 refine anyD_t 0 (.pointer (some ⟨g,1,none⟩)) ?_
 try simp only [Act.put,sx]
 refine anyD_l 1 (.agg #[.int .u32 ((bset Z.a C.sts.length:Nat):Int),.slice hA9 Z.hist.length hcap9,.slice eA9 Z.env.length ecap9,.slice iA9 Z.ins.length icap9,.int .i64 Z.st]) (⟨⟨x1,x2,x3,x4,x5⟩,x7⟩) ?_
 try simp only [Act.put,sx]
 refine anyD_t 2 (.pointer (some ⟨g,7,none⟩)) ?_
 try simp only [Act.put,sx]
 refine anyD_l 3 (.slice oA9 Z.out.length ocap9) (⟨⟨x1,x2,x3,x4,x5⟩,x7⟩) ?_
 try simp only [Act.put,sx]
 clear x0 x1 x2 x3 x4 x5 x6 x7
 have HS11:=Lib.hid (HSD.out.run_else_at HRD9.out (.int .u32 ((bset Z.a C.sts.length:Nat):Int)) (.slice hA9 Z.hist.length hcap9) (.slice eA9 Z.env.length ecap9) (.slice iA9 Z.ins.length icap9) (.int .i64 Z.st))
 obtain ⟨x1,x2,x3,x4,x5,x7⟩:=HS11.out.1
 have HMW:=Lib.hid (HS11.out.2.lower HB1.out.size)
 refine anyD_one (i:=4) rfl rfl (by kernel_rfl) (fun K HK=>?_)
 go_simp
 go_simp
 refine HK.out _ _ (fun _ hS=>⟨⟨x1,x2,x3,x4,x5⟩,x7⟩) ?_
 clear HK K
 try simp only [Act.put,sx]
 refine anyD_one (i:=5) rfl rfl (by kernel_rfl) (fun K HK=>?_)
 go_simp
 refine HK.out _ _ (fun _ hS=>hS) ?_
 clear HK K
 try simp only [Act.put,sx]
 refine anyD_done (by kernel_rfl) ?_
 go_wp2_with fail
 have hbz:=(((((HB1.out.trans (HSD.out.below.mono HB1.out.size)).setCell (p:=⟨w.heap.size,0,none⟩) (by simp) (.int .u32 ((bset Z.a C.sts.length:Nat):Int))).setCell (p:=⟨w.heap.size,1,none⟩) (by simp) (.slice hA9 Z.hist.length hcap9)).setCell (p:=⟨w.heap.size,2,none⟩) (by simp) (.slice eA9 Z.env.length ecap9)).setCell (p:=⟨w.heap.size,3,none⟩) (by simp) (.slice iA9 Z.ins.length icap9)).setCell (p:=⟨w.heap.size,4,none⟩) (by simp) (.int .i64 Z.st)
 refine bodyPost_ret (results_two rfl _ _ _ rfl (load_run (((((HRD9.out.set_ 0 _).set_ 1 _).set_ 2 _).set_ 3 _).set_ 4 _))) rfl ?_
 exact ⟨hbz,_,_,_,_,rfl,HMW.out⟩
set_option maxHeartbeats 4000000 in
set_option maxRecDepth 100000 in
theorem mtake_any (hL:Laid w) (hT:TreeAt w t C) (hC:Chk C) (v:Value) (hR:RunAt w C.sts.length v X) (hok:Okw C X) (ev:Int):Calls Tryz.prog 15 #[.pointer (some ⟨t,0,none⟩),v,.int .i64 ev] w (TkPost C (takeS C ev X.hush) w):=by
 obtain ⟨vh,ve,vi,rfl,hH,hE,hI⟩:=hR
 obtain ⟨hA,hcap,rfl,-⟩:=RowsAt.slice hH
 obtain ⟨eA,ecap,rfl,-⟩:=RowsAt.slice (rows_of_nums hE)
 obtain ⟨iA,icap,rfl,-⟩:=RowsAt.slice hI
 have hb0:Below w.heap.size w ((w.alloc (.cells #[.int .u32 ((bset X.a C.sts.length:Nat):Int),.slice hA X.hist.length hcap,.slice eA X.env.length ecap,.slice iA X.ins.length icap,.int .i64 X.st] 38)).alloc (.cells #[.int .u32 0,.slice none 0 0,.slice none 0 0,.slice none 0 0,.int .i64 0] 38)):=(below_box w _).alloc (by simp) _
 have HB1:=Lib.hid hb0
 have HX0:=Lib.hid ((Blk.new w 38 #[.int .u32 ((bset X.a C.sts.length:Nat):Int),.slice hA X.hist.length hcap,.slice eA X.env.length ecap,.slice iA X.ins.length icap,.int .i64 X.st]).alloc (.cells #[.int .u32 0,.slice none 0 0,.slice none 0 0,.slice none 0 0,.int .i64 0] 38))
 have HRB:=Lib.hid (Blk.new_at (w.alloc (.cells #[.int .u32 ((bset X.a C.sts.length:Nat):Int),.slice hA X.hist.length hcap,.slice eA X.env.length ecap,.slice iA X.ins.length icap,.int .i64 X.st] 38)) 38 #[.int .u32 0,.slice none 0 0,.slice none 0 0,.slice none 0 0,.int .i64 0] (w.heap.size+1) (by simp))
 have HL:=Lib.hid (hL.after hb0)
 have HT:=Lib.hid (hT.below hb0)
 have HC:=Lib.hid hC
 have HO:Hid (Okb C X.hush 40):=Lib.hid ⟨⟨hok.wb,hok.snd,hok.hl,hok.lt,hok.el,hok.fit,hok.big,hok.il⟩,Nat.le_refl _,by show 0+10000 * 40≤500000; decide⟩
 have HCR:=Lib.hid (copyRun_any ((bset X.a C.sts.length:Nat):Int) _ _ _ X.hist X.env X.ins X.st _ (hH.below hb0) (by have:=hok.hl; have:=(tame_of hC.chk).len; omega) (hE.below hb0) (by have:=hok.el; have:=hC.vars; omega) (hI.below hb0) (by have:=hok.big; omega))
 obtain ⟨Z,hZ⟩:∃ Z,takeS C ev X.hush=Z:=⟨_,rfl⟩
 have HZ:=Lib.hid hZ
 rw [hZ]
 clear hL hT hC hb0 hZ hH hE hI hok
 go_enter Tryz.func15,Tryz.ntmps15
 go_wp2_with fail
 obtain ⟨⟨p0,p1,p2,p3,p4⟩,-⟩:=blk5_facts HX0.out
 generalize (w.alloc (.cells #[.int .u32 ((bset X.a C.sts.length:Nat):Int),.slice hA X.hist.length hcap,.slice eA X.env.length ecap,.slice iA X.ins.length icap,.int .i64 X.st] 38)).alloc (.cells #[.int .u32 0,.slice none 0 0,.slice none 0 0,.slice none 0 0,.int .i64 0] 38)=w1 at *
 refine HCR.out.mono ?_
 rintro e w2 ⟨hb2,vh2,ve2,vi2,rfl,hr2⟩
 obtain ⟨hA2,hcap2,rfl⟩:=hr2.hist.slice
 obtain ⟨eA2,ecap2,rfl⟩:=OwnEnv.slice hr2.env
 obtain ⟨iA2,icap2,rfl⟩:=own_slice hr2.ins
 have hbx:=below_box w2 (.cells #[.pointer (some ⟨t,0,none⟩),.int .u32 ((bset X.a C.sts.length:Nat):Int),.slice hA2 X.hist.length hcap2,.slice eA2 X.env.length ecap2,.slice iA2 X.ins.length icap2,.int .i64 X.st,.int .i64 40,.slice none 0 0] 72)
 have HS3:Hid (MsAt w1 t w2.heap.size C (w2.alloc (.cells #[.pointer (some ⟨t,0,none⟩),.int .u32 ((bset X.a C.sts.length:Nat):Int),.slice hA2 X.hist.length hcap2,.slice eA2 X.env.length ecap2,.slice iA2 X.ins.length icap2,.int .i64 X.st,.int .i64 40,.slice none 0 0] 72)) (.slice hA2 X.hist.length hcap2) (.slice eA2 X.env.length ecap2) (.slice iA2 X.ins.length icap2) (.slice none 0 0) X.hush 40) :=
  Lib.hid ⟨hb2.alloc hb2.size _,hb2.size,Blk.new w2 _ _,hr2.hist.below hbx,OwnEnv.below hr2.env hbx,(InAt.of_own hr2.ins).below hbx,World.ownsRow_nil _ _ _ _⟩
 clear hb2 hr2 hbx HCR p0 p1 p2 p3 p4 HX0
 go_wp2_with fail
 generalize w2.alloc (.cells #[.pointer (some ⟨t,0,none⟩),.int .u32 ((bset X.a C.sts.length:Nat):Int),.slice hA2 X.hist.length hcap2,.slice eA2 X.env.length ecap2,.slice iA2 X.ins.length icap2,.int .i64 X.st,.int .i64 40,.slice none 0 0] 72)=w3 at *
 generalize w2.heap.size=g at *
 refine (isGoing_any HS3.out).mono ?_
 rintro e w4 ⟨rfl,hb4⟩
 have HS4:=Lib.hid (HS3.out.after hb4)
 clear hb4 HS3
 have hst:X.hush.st=X.st:=rfl
 rw [hst]
 by_cases h1:X.st=1
 · have HH1:=Lib.hid h1
   rw [decide_eq_true h1]
   clear h1
   go_wp2_with fail
   refine (roundF_any HL.out HT.out HC.out HS4.out HO.out HH1.out ev).mono ?_
   rintro e w5 ⟨rfl,vh5,ve5,vi5,vo5,hs5⟩
   have hq:rndF C ev X.hush 40=(decide (rndL C ev X.hush ≠ []),rndS C ev X.hush,39):=rndF_succ C ev X.hush 39
   have hob:=HO.out.round HC.out HH1.out ev
   rw [hq] at hs5 hob ⊢
   have HS5:=Lib.hid hs5
   have HOB:=Lib.hid hob
   clear hs5 hq hob HS4
   go_wp2_with fail
   refine (settle_any HL.out HT.out HC.out HS5.out HOB.out (k:=42) ⟨fun _=>by decide,by decide⟩).mono ?_
   rintro e w9 ⟨rfl,f9,vh9,ve9,vi9,vo9,hs9,-⟩
   have HSZ:Hid (MsAt w1 t g C w9 vh9 ve9 vi9 vo9 Z f9):=Lib.hid (by rw [← HZ.out]; unfold takeS; rw [if_pos (show X.hush.st=1 from HH1.out)]; exact hs9)
   clear hs9 HS5 HOB
   have HSD:=Lib.hid HSZ.out.drew
   have HRD9:=Lib.hid ((HRB.out.below HSZ.out.below HRB.out.lt).drew)
   obtain ⟨hA9,hcap9,rfl⟩:=HSD.out.rows.hist.slice
   obtain ⟨eA9,ecap9,rfl⟩:=OwnEnv.slice HSD.out.rows.env
   obtain ⟨iA9,icap9,rfl⟩:=HSD.out.rows.ins.slice
   obtain ⟨oA9,ocap9,rfl⟩:=own_slice HSD.out.rows.out
   clear HSZ
   go_wp2_with fail
   refine anyD_start (fun W=>(W.cell? ⟨g,1,none⟩=some (.int .u32 ((bset Z.a C.sts.length:Nat):Int))∧W.cell? ⟨g,2,none⟩=some (.slice hA9 Z.hist.length hcap9)∧W.cell? ⟨g,3,none⟩=some (.slice eA9 Z.env.length ecap9)∧W.cell? ⟨g,4,none⟩=some (.slice iA9 Z.ins.length icap9)∧W.cell? ⟨g,5,none⟩=some (.int .i64 Z.st))∧W.cell? ⟨g,7,none⟩=some (.slice oA9 Z.out.length ocap9)) (fun i=>[].contains i) (by kernel_rfl) ?_
   try simp only [Act.put,sx]
   generalize w9.drew=w10 at *
   obtain ⟨x0,x1,x2,x3,x4,x5,x6,x7⟩:=HSD.out.cells
   obtain ⟨⟨p0,p1,p2,p3,p4⟩,q0,q1,q2,q3,q4⟩:=blk5_facts HRD9.out
   refine anyD_t 0 (.pointer (some ⟨g,1,none⟩)) ?_
   try simp only [Act.put,sx]
   refine anyD_l 1 (.agg #[.int .u32 ((bset Z.a C.sts.length:Nat):Int),.slice hA9 Z.hist.length hcap9,.slice eA9 Z.env.length ecap9,.slice iA9 Z.ins.length icap9,.int .i64 Z.st]) (⟨⟨x1,x2,x3,x4,x5⟩,x7⟩) ?_
   try simp only [Act.put,sx]
   refine anyD_t 2 (.pointer (some ⟨g,7,none⟩)) ?_
   try simp only [Act.put,sx]
   refine anyD_l 3 (.slice oA9 Z.out.length ocap9) (⟨⟨x1,x2,x3,x4,x5⟩,x7⟩) ?_
   try simp only [Act.put,sx]
   clear x0 x1 x2 x3 x4 x5 x6 x7
   have HS11:=Lib.hid (HSD.out.run_else_at HRD9.out (.int .u32 ((bset Z.a C.sts.length:Nat):Int)) (.slice hA9 Z.hist.length hcap9) (.slice eA9 Z.env.length ecap9) (.slice iA9 Z.ins.length icap9) (.int .i64 Z.st))
   obtain ⟨x1,x2,x3,x4,x5,x7⟩:=HS11.out.1
   have HMW:=Lib.hid (HS11.out.2.lower HB1.out.size)
   refine anyD_one (i:=4) rfl rfl (by kernel_rfl) (fun K HK=>?_)
   go_simp
   go_simp
   refine HK.out _ _ (fun _ hS=>⟨⟨x1,x2,x3,x4,x5⟩,x7⟩) ?_
   clear HK K
   try simp only [Act.put,sx]
   refine anyD_one (i:=5) rfl rfl (by kernel_rfl) (fun K HK=>?_)
   go_simp
   refine HK.out _ _ (fun _ hS=>hS) ?_
   clear HK K
   try simp only [Act.put,sx]
   refine anyD_done (by kernel_rfl) ?_
   go_wp2_with fail
   have hbz:=(((((HB1.out.trans (HSD.out.below.mono HB1.out.size)).setCell (p:=⟨w.heap.size+1,0,none⟩) (by simp) (.int .u32 ((bset Z.a C.sts.length:Nat):Int))).setCell (p:=⟨w.heap.size+1,1,none⟩) (by simp) (.slice hA9 Z.hist.length hcap9)).setCell (p:=⟨w.heap.size+1,2,none⟩) (by simp) (.slice eA9 Z.env.length ecap9)).setCell (p:=⟨w.heap.size+1,3,none⟩) (by simp) (.slice iA9 Z.ins.length icap9)).setCell (p:=⟨w.heap.size+1,4,none⟩) (by simp) (.int .i64 Z.st)
   refine bodyPost_ret (results_two rfl _ _ _ rfl (load_run (((((HRD9.out.set_ 0 _).set_ 1 _).set_ 2 _).set_ 3 _).set_ 4 _))) rfl ?_
   exact ⟨hbz,_,_,_,_,rfl,HMW.out⟩
 · have HH1:=Lib.hid h1
   rw [decide_eq_false h1]
   clear h1
   obtain ⟨w9,hw9⟩:∃ w9,w4=w9:=⟨_,rfl⟩
   subst hw9
   have HSZ:Hid (MsAt w1 t g C w4 (.slice hA2 X.hist.length hcap2) (.slice eA2 X.env.length ecap2) (.slice iA2 X.ins.length icap2) (.slice none 0 0) Z 40):=Lib.hid (by rw [← HZ.out]; unfold takeS; rw [if_neg (show ¬ X.hush.st=1 from HH1.out)]; exact HS4.out)
   have HZX:Hid (Z.hist=X.hist∧Z.env=X.env∧Z.ins=X.ins∧Z.out=[]):=Lib.hid (by rw [← HZ.out]; unfold takeS; rw [if_neg (show ¬ X.hush.st=1 from HH1.out)]; exact ⟨rfl,rfl,rfl,rfl⟩)
   clear HS4
   have HSD:=Lib.hid HSZ.out.drew
   have HRD9:=Lib.hid ((HRB.out.below HSZ.out.below HRB.out.lt).drew)
   obtain ⟨hA9,hcap9,hq1⟩:=HSD.out.rows.hist.slice
   obtain ⟨eA9,ecap9,hq2⟩:=OwnEnv.slice HSD.out.rows.env
   obtain ⟨iA9,icap9,hq3⟩:=HSD.out.rows.ins.slice
   obtain ⟨oA9,ocap9,hq4⟩:=own_slice HSD.out.rows.out
   rw [hq1,hq2,hq3,hq4] at HSD
   clear hq1 hq2 hq3 hq4
   clear HSZ
   go_wp2_with fail
   refine anyD_start (fun W=>(W.cell? ⟨g,1,none⟩=some (.int .u32 ((bset Z.a C.sts.length:Nat):Int))∧W.cell? ⟨g,2,none⟩=some (.slice hA9 Z.hist.length hcap9)∧W.cell? ⟨g,3,none⟩=some (.slice eA9 Z.env.length ecap9)∧W.cell? ⟨g,4,none⟩=some (.slice iA9 Z.ins.length icap9)∧W.cell? ⟨g,5,none⟩=some (.int .i64 Z.st))∧W.cell? ⟨g,7,none⟩=some (.slice oA9 Z.out.length ocap9)) (fun i=>[].contains i) (by kernel_rfl) ?_
   try simp only [Act.put,sx]
   generalize w4.drew=w10 at *
   obtain ⟨x0,x1,x2,x3,x4,x5,x6,x7⟩:=HSD.out.cells
   obtain ⟨⟨p0,p1,p2,p3,p4⟩,q0,q1,q2,q3,q4⟩:=blk5_facts HRD9.out
   refine anyD_t 0 (.pointer (some ⟨g,1,none⟩)) ?_
   try simp only [Act.put,sx]
   refine anyD_l 1 (.agg #[.int .u32 ((bset Z.a C.sts.length:Nat):Int),.slice hA9 Z.hist.length hcap9,.slice eA9 Z.env.length ecap9,.slice iA9 Z.ins.length icap9,.int .i64 Z.st]) (⟨⟨x1,x2,x3,x4,x5⟩,x7⟩) ?_
   try simp only [Act.put,sx]
   refine anyD_t 2 (.pointer (some ⟨g,7,none⟩)) ?_
   try simp only [Act.put,sx]
   refine anyD_l 3 (.slice oA9 Z.out.length ocap9) (⟨⟨x1,x2,x3,x4,x5⟩,x7⟩) ?_
   try simp only [Act.put,sx]
   clear x0 x1 x2 x3 x4 x5 x6 x7
   have HS11:=Lib.hid (HSD.out.run_else_at HRD9.out (.int .u32 ((bset Z.a C.sts.length:Nat):Int)) (.slice hA9 Z.hist.length hcap9) (.slice eA9 Z.env.length ecap9) (.slice iA9 Z.ins.length icap9) (.int .i64 Z.st))
   obtain ⟨x1,x2,x3,x4,x5,x7⟩:=HS11.out.1
   have HMW:=Lib.hid (HS11.out.2.lower HB1.out.size)
   refine anyD_one (i:=4) rfl rfl (by kernel_rfl) (fun K HK=>?_)
   go_simp
   go_simp
   refine HK.out _ _ (fun _ hS=>⟨⟨x1,x2,x3,x4,x5⟩,x7⟩) ?_
   clear HK K
   try simp only [Act.put,sx]
   refine anyD_one (i:=5) rfl rfl (by kernel_rfl) (fun K HK=>?_)
   go_simp
   refine HK.out _ _ (fun _ hS=>hS) ?_
   clear HK K
   try simp only [Act.put,sx]
   refine anyD_done (by kernel_rfl) ?_
   go_wp2_with fail
   have hbz:=(((((HB1.out.trans (HSD.out.below.mono HB1.out.size)).setCell (p:=⟨w.heap.size+1,0,none⟩) (by simp) (.int .u32 ((bset Z.a C.sts.length:Nat):Int))).setCell (p:=⟨w.heap.size+1,1,none⟩) (by simp) (.slice hA9 Z.hist.length hcap9)).setCell (p:=⟨w.heap.size+1,2,none⟩) (by simp) (.slice eA9 Z.env.length ecap9)).setCell (p:=⟨w.heap.size+1,3,none⟩) (by simp) (.slice iA9 Z.ins.length icap9)).setCell (p:=⟨w.heap.size+1,4,none⟩) (by simp) (.int .i64 Z.st)
   refine bodyPost_ret (results_two rfl _ _ _ rfl (load_run (((((HRD9.out.set_ 0 _).set_ 1 _).set_ 2 _).set_ 3 _).set_ 4 _))) rfl ?_
   exact ⟨hbz,_,_,_,_,rfl,HMW.out⟩
end
end Go.Proofs.YtmhkpjcdkjnlnaaGreatDoor
