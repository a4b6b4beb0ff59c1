/- The contracts of macro's Start and Take. -/
import Derived.Test.YtgofpbdbeegoeaaGreatDoorFUUst
import Derived.Test.YtgofpbdbeegoeaaGreatDoorFUUpure
import Derived.Test.YtgofpbdbeegoeaaGreatDoorFUIdn
import Derived.Test.YtgofpbdbeegoeaaGreatDoorFUPkind
import Derived.Test.YtgofpbdbeegoeaaGreatDoorFUHpure
import Derived.Test.YtgofpbdbeegoeaaGreatDoorFUSbl
import Derived.Test.YtgofpbdbeegoeaaGreatDoorFUSwo
import Derived.Test.YtgofpbdbeegoeaaGreatDoorFUArw
import Derived.Test.YtgofpbdbeegoeaaGreatDoorFUCact
import Derived.Test.YtgofpbdbeegoeaaGreatDoorFUPlev
import Derived.Deep.RegionWith
import Derived.Test.YtgofpbdbeegoeaaGreatDoorFUTmay
import Derived.Test.YtgofpbdbeegoeaaGreatDoorFUZlaid
import Derived.Test.YtgofpbdbeegoeaaGreatDoorFUIst
namespace Go.Proofs.YtgofpbdbeegoeaaGreatDoor
open Go.ChangeShapes Go.WideShapes Go.ChangeAt Go.RowKit
set_option linter.unusedVariables false

theorem MwAt.lower {B B':Nat} {w:World} {vh ve vi vo:Value} {X:Se} (h:MwAt B w vh ve vi vo X) (hB:B'≤B):MwAt B' w vh ve vi vo X:=⟨h.hist.lower hB,RowAt.lower h.env hB,h.ins.base hB,own_base h.out hB⟩
theorem MwAt.run {B n:Nat} {w:World} {vh ve vi vo:Value} {X:Se} (h:MwAt B w vh ve vi vo X):RunAt w n (.agg #[.int .u32 ((bset X.a n:Nat):Int),vh,ve,vi,.int .i64 X.st]) X:=⟨_,_,_,rfl,h.hist.hist,OwnEnv.nums h.env,h.ins.list⟩
theorem MwAt.outs {B:Nat} {w:World} {vh ve vi vo:Value} {X:Se} (h:MwAt B w vh ve vi vo X):OutsAt w vo X.out:=OwnOuts.outs h.out
def TkPost (C:Ch) (Y:Se) (w:World) (e:Ending) (w':World):Prop:=Below w.heap.size w w'∧∃ vh ve vi vo,e=.returned (.tuple #[.agg #[.int .u32 ((bset Y.a C.sts.length:Nat):Int),vh,ve,vi,.int .i64 Y.st],vo])∧MwAt w.heap.size w' vh ve vi vo Y
section
variable {w0:World} {t g:Nat} {C:Ch} {w:World} {vh ve vi vo:Value} {X:Se} {f:Nat}
theorem MsAt.run_else_at {b:Nat} {cs:Array Value} (h:MsAt w0 t g C w vh ve vi vo X f) (hb:Blk w b 31 cs) (a0 a1 a2 a3 a4:Value) :
 (((set5 w b 0 a0 a1 a2 a3 a4).cell? ⟨g,1,none⟩=some (.int .u32 ((bset X.a C.sts.length:Nat):Int))∧(set5 w b 0 a0 a1 a2 a3 a4).cell? ⟨g,2,none⟩=some vh∧(set5 w b 0 a0 a1 a2 a3 a4).cell? ⟨g,3,none⟩=some ve∧(set5 w b 0 a0 a1 a2 a3 a4).cell? ⟨g,4,none⟩=some vi∧(set5 w b 0 a0 a1 a2 a3 a4).cell? ⟨g,5,none⟩=some (.int .i64 X.st)∧(set5 w b 0 a0 a1 a2 a3 a4).cell? ⟨g,7,none⟩=some vo)) ∧
 MwAt w0.heap.size (set5 w b 0 a0 a1 a2 a3 a4) vh ve vi vo X:=by
 have hne:g ≠ b:=Ne.symm (blk_neT hb h.blk (by decide))
 have k1:=hb.set_ 0 a0
 have k2:=k1.set_ 1 a1
 have k3:=k2.set_ 2 a2
 have k4:=k3.set_ 3 a3
 have hg:=((((h.blk.set_ne hne 0 a0).set_ne hne 1 a1).set_ne hne 2 a2).set_ne hne 3 a3).set_ne hne 4 a4
 have hr:=((((h.rows.apart hb (by decide) (by decide) (by decide) (by decide) 0 a0).apart k1 (by decide) (by decide) (by decide) (by decide) 1 a1).apart k2 (by decide) (by decide) (by decide) (by decide) 2 a2).apart k3 (by decide) (by decide) (by decide) (by decide) 3 a3).apart k4 (by decide) (by decide) (by decide) (by decide) 4 a4
 exact ⟨⟨hg.cell 1,hg.cell 2,hg.cell 3,hg.cell 4,hg.cell 5,hg.cell 7⟩,hr⟩
theorem fst_out {C:Ch} (hC:Chk C):(fstS C).out.length≤5000:=by
 have hlm:Lim 3 (enS C.sts 0 (beg C)):=enS_lim hC.few.ent 0 (beg_lim (vars_of hC.chk))
 have hlm2:Lim (3+3 * C.sts.length) (fstS C):=entU_lim hC.few.ent _ hlm _
 have:=hlm2.out
 have:=(tame_of hC.chk).len
 omega
theorem MsAt.init {w1 w3:World} {c1 c2 c3 c4 c5 c7:Value} {Y:Se} (hb:Below w1.heap.size w1 w3) (hg:w1.heap.size≤g) (hG:Blk w3 g 100 #[.pointer (some ⟨t,0,none⟩),c1,c2,c3,c4,c5,.int .i64 (f:Int),c7]) (hr:RwAt w1.heap.size w3 vh ve vi vo Y) :
 MsAt w1 t g C ((set5 w3 g 1 (.int .u32 ((bset Y.a C.sts.length:Nat):Int)) vh ve vi (.int .i64 Y.st)).setCell ⟨g,7,none⟩ vo) vh ve vi vo Y f:=by
 have hr':=hr.run_else (k:=1) hG (by decide) (by decide) (by decide) (by decide) (.int .u32 ((bset Y.a C.sts.length:Nat):Int)) vh ve vi (.int .i64 Y.st)
 have hG':Blk (set5 w3 g 1 (.int .u32 ((bset Y.a C.sts.length:Nat):Int)) vh ve vi (.int .i64 Y.st)) g 100 _:=((((hG.set_ 1 _).set_ 2 _).set_ 3 _).set_ 4 _).set_ 5 _
 exact ⟨(((((hb.setCell (p:=⟨g,1,none⟩) hg _).setCell (p:=⟨g,2,none⟩) hg _).setCell (p:=⟨g,3,none⟩) hg _).setCell (p:=⟨g,4,none⟩) hg _).setCell (p:=⟨g,5,none⟩) hg _).setCell (p:=⟨g,7,none⟩) hg _,hg,hG'.set_ 7 vo,(MwAt.of hr').apart hG' (by decide) (by decide) (by decide) (by decide) 7 vo⟩
set_option maxHeartbeats 4000000 in
set_option maxRecDepth 100000 in
theorem mstart_any (hL:Laid w) (hT:TreeAt w t C) (hC:Chk C):Calls Tryz.prog 18 #[.pointer (some ⟨t,0,none⟩)] w (TkPost C (startS C) w):=by
 have hb0:=below_box w (.cells #[.int .u32 0,.slice none 0 0,.slice none 0 0,.slice none 0 0,.int .i64 0] 31)
 have HB1:=Lib.hid hb0
 have HRB:=Lib.hid (Blk.new w 31 #[.int .u32 0,.slice none 0 0,.slice none 0 0,.slice none 0 0,.int .i64 0])
 have HL:=Lib.hid (hL.after hb0)
 have HT:=Lib.hid (hT.below hb0)
 have HC:=Lib.hid hC
 have hw1:(w.alloc (.cells #[.int .u32 0,.slice none 0 0,.slice none 0 0,.slice none 0 0,.int .i64 0] 31)).heap.size=w.heap.size+1:=by simp
 have HW1:=Lib.hid hw1
 obtain ⟨Z,hZ⟩:∃ Z,startS C=Z:=⟨_,rfl⟩
 have HZ:=Lib.hid hZ
 rw [hZ]
 clear hL hT hC hb0 hZ
 go_enter Tryz.func18,Tryz.ntmps18
 go_wp2_with fail
 have HG2:=Lib.hid (Blk.new (w.alloc (.cells #[.int .u32 0,.slice none 0 0,.slice none 0 0,.slice none 0 0,.int .i64 0] 31)) 100 #[.pointer (some ⟨t,0,none⟩),.int .u32 0,.slice none 0 0,.slice none 0 0,.slice none 0 0,.int .i64 0,.int .i64 ((40:Nat):Int),.slice none 0 0])
 have HB2:=Lib.hid (below_box (w.alloc (.cells #[.int .u32 0,.slice none 0 0,.slice none 0 0,.slice none 0 0,.int .i64 0] 31)) (.cells #[.pointer (some ⟨t,0,none⟩),.int .u32 0,.slice none 0 0,.slice none 0 0,.slice none 0 0,.int .i64 0,.int .i64 40,.slice none 0 0] 100))
 rw [hw1] at HG2
 clear hw1
 generalize w.alloc (.cells #[.int .u32 0,.slice none 0 0,.slice none 0 0,.slice none 0 0,.int .i64 0] 31)=w1 at *
 have HG2':Hid (Blk (w1.alloc (.cells #[.pointer (some ⟨t,0,none⟩),.int .u32 0,.slice none 0 0,.slice none 0 0,.slice none 0 0,.int .i64 0,.int .i64 40,.slice none 0 0] 100)) (w.heap.size+1) 100 #[.pointer (some ⟨t,0,none⟩),.int .u32 0,.slice none 0 0,.slice none 0 0,.slice none 0 0,.int .i64 0,.int .i64 ((40:Nat):Int),.slice none 0 0]):=HG2
 clear HG2
 generalize w1.alloc (.cells #[.pointer (some ⟨t,0,none⟩),.int .u32 0,.slice none 0 0,.slice none 0 0,.slice none 0 0,.int .i64 0,.int .i64 40,.slice none 0 0] 100)=w2 at *
 generalize w.heap.size+1=g at *
 refine (mfirst_any t C w2 (HL.out.after HB2.out) (HT.out.below HB2.out) HC.out.chk HC.out.fewB).mono ?_
 rintro e w3 ⟨hb3,v3,vo3,rfl,vh3,ve3,vi3,rfl,hr3⟩
 obtain ⟨hA3,hcap3,rfl⟩:=hr3.hist.slice
 obtain ⟨eA3,ecap3,rfl⟩:=OwnEnv.slice hr3.env
 obtain ⟨iA3,icap3,rfl⟩:=own_slice hr3.ins
 obtain ⟨oA3,ocap3,rfl⟩:=own_slice hr3.out
 have HG3:=Lib.hid (HG2'.out.below hb3 HG2'.out.lt)
 have HM:=Lib.hid (MsAt.init (C:=C) (HB2.out.trans (hb3.mono HB2.out.size)) (Nat.le_of_eq HW1.out) HG3.out (hr3.lower HB2.out.size))
 simp only [set5,Nat.reduceAdd] at HM
 have HOB:Hid (Okb C (fstS C) 40):=Lib.hid ⟨fst_ok HC.out,Nat.le_refl _,by have:=fst_out HC.out; omega⟩
 generalize hY:fstS C=Y at *
 have HY:=Lib.hid hY
 have c1:=HG3.out.cell 1
 have c2:=HG3.out.cell 2
 have c3:=HG3.out.cell 3
 have c4:=HG3.out.cell 4
 have c5:=HG3.out.cell 5
 have c7:=HG3.out.cell 7
 have f1:=HG3.out.frozen 1
 have f2:=HG3.out.frozen 2
 have f3:=HG3.out.frozen 3
 have f4:=HG3.out.frozen 4
 have f5:=HG3.out.frozen 5
 have f7:=HG3.out.frozen 7
 clear hb3 hr3 HG2' HG3 hY
 go_wp2_with fail
 refine (settle_any HL.out HT.out HC.out HM.out HOB.out (k:=42) ⟨fun _=>by decide,by decide⟩).mono ?_
 rintro e w9 ⟨rfl,f9,vh9,ve9,vi9,vo9,hs9,-⟩
 have HSZ:Hid (MsAt w1 t g C w9 vh9 ve9 vi9 vo9 Z f9):=Lib.hid (by rw [← HZ.out]; unfold startS; rw [HY.out]; exact hs9)
 clear hs9 HM HOB c1 c2 c3 c4 c5 c7 f1 f2 f3 f4 f5 f7 HB2 HW1
 have HSD:=Lib.hid HSZ.out.drew
 have HRD9:=Lib.hid ((HRB.out.below HSZ.out.below HRB.out.lt).drew)
 obtain ⟨hA9,hcap9,rfl⟩:=HSD.out.rows.hist.slice
 obtain ⟨eA9,ecap9,rfl⟩:=OwnEnv.slice HSD.out.rows.env
 obtain ⟨iA9,icap9,rfl⟩:=HSD.out.rows.ins.slice
 obtain ⟨oA9,ocap9,rfl⟩:=own_slice HSD.out.rows.out
 clear HSZ
 go_wp2_with fail
 refine anyD_start (fun W=>(W.cell? ⟨g,1,none⟩=some (.int .u32 ((bset Z.a C.sts.length:Nat):Int))∧W.cell? ⟨g,2,none⟩=some (.slice hA9 Z.hist.length hcap9)∧W.cell? ⟨g,3,none⟩=some (.slice eA9 Z.env.length ecap9)∧W.cell? ⟨g,4,none⟩=some (.slice iA9 Z.ins.length icap9)∧W.cell? ⟨g,5,none⟩=some (.int .i64 Z.st))∧W.cell? ⟨g,7,none⟩=some (.slice oA9 Z.out.length ocap9)) (fun i=>[].contains i) (by kernel_rfl) ?_
 try simp only [Act.put,sx]
 generalize w9.drew=w10 at *
 obtain ⟨x0,x1,x2,x3,x4,x5,x6,x7⟩:=HSD.out.cells
 obtain ⟨⟨p0,p1,p2,p3,p4⟩,q0,q1,q2,q3,q4⟩:=blk5_facts HRD9.out
 refine anyD_t 0 (.pointer (some ⟨g,1,none⟩)) ?_
 try simp only [Act.put,sx]
 refine anyD_l 1 (.agg #[.int .u32 ((bset Z.a C.sts.length:Nat):Int),.slice hA9 Z.hist.length hcap9,.slice eA9 Z.env.length ecap9,.slice iA9 Z.ins.length icap9,.int .i64 Z.st]) (⟨⟨x1,x2,x3,x4,x5⟩,x7⟩) ?_
 try simp only [Act.put,sx]
 refine anyD_t 2 (.pointer (some ⟨g,7,none⟩)) ?_
 try simp only [Act.put,sx]
 refine anyD_l 3 (.slice oA9 Z.out.length ocap9) (⟨⟨x1,x2,x3,x4,x5⟩,x7⟩) ?_
 try simp only [Act.put,sx]
 clear x0 x1 x2 x3 x4 x5 x6 x7
 have HS11:=Lib.hid (HSD.out.run_else_at HRD9.out (.int .u32 ((bset Z.a C.sts.length:Nat):Int)) (.slice hA9 Z.hist.length hcap9) (.slice eA9 Z.env.length ecap9) (.slice iA9 Z.ins.length icap9) (.int .i64 Z.st))
 obtain ⟨x1,x2,x3,x4,x5,x7⟩:=HS11.out.1
 have HMW:=Lib.hid (HS11.out.2.lower HB1.out.size)
 refine anyD_one (i:=4) rfl rfl (by kernel_rfl) (fun K HK=>?_)
 go_simp
 go_simp
 refine HK.out _ _ (fun _ hS=>⟨⟨x1,x2,x3,x4,x5⟩,x7⟩) ?_
 clear HK K
 try simp only [Act.put,sx]
 refine anyD_one (i:=5) rfl rfl (by kernel_rfl) (fun K HK=>?_)
 go_simp
 refine HK.out _ _ (fun _ hS=>hS) ?_
 clear HK K
 try simp only [Act.put,sx]
 refine anyD_done (by kernel_rfl) ?_
 go_wp2_with fail
 have hbz:=(((((HB1.out.trans (HSD.out.below.mono HB1.out.size)).setCell (p:=⟨w.heap.size,0,none⟩) (by simp) (.int .u32 ((bset Z.a C.sts.length:Nat):Int))).setCell (p:=⟨w.heap.size,1,none⟩) (by simp) (.slice hA9 Z.hist.length hcap9)).setCell (p:=⟨w.heap.size,2,none⟩) (by simp) (.slice eA9 Z.env.length ecap9)).setCell (p:=⟨w.heap.size,3,none⟩) (by simp) (.slice iA9 Z.ins.length icap9)).setCell (p:=⟨w.heap.size,4,none⟩) (by simp) (.int .i64 Z.st)
 refine bodyPost_ret (results_two rfl _ _ _ rfl (load_run (((((HRD9.out.set_ 0 _).set_ 1 _).set_ 2 _).set_ 3 _).set_ 4 _))) rfl ?_
 exact ⟨hbz,_,_,_,_,rfl,HMW.out⟩
set_option maxHeartbeats 4000000 in
set_option maxRecDepth 100000 in
theorem mtake_any (hL:Laid w) (hT:TreeAt w t C) (hC:Chk C) (v:Value) (hR:RunAt w C.sts.length v X) (hok:Okw C X) (ev:Int):Calls Tryz.prog 22 #[.pointer (some ⟨t,0,none⟩),v,.int .i64 ev] w (TkPost C (takeS C ev X.hush) w):=by
 obtain ⟨vh,ve,vi,rfl,hH,hE,hI⟩:=hR
 obtain ⟨hA,hcap,rfl,-⟩:=RowsAt.slice hH
 obtain ⟨eA,ecap,rfl,-⟩:=RowsAt.slice (rows_of_nums hE)
 obtain ⟨iA,icap,rfl,-⟩:=RowsAt.slice hI
 have hb0:Below w.heap.size w ((w.alloc (.cells #[.int .u32 ((bset X.a C.sts.length:Nat):Int),.slice hA X.hist.length hcap,.slice eA X.env.length ecap,.slice iA X.ins.length icap,.int .i64 X.st] 31)).alloc (.cells #[.int .u32 0,.slice none 0 0,.slice none 0 0,.slice none 0 0,.int .i64 0] 31)):=(below_box w _).alloc (by simp) _
 have HB1:=Lib.hid hb0
 have HX0:=Lib.hid ((Blk.new w 31 #[.int .u32 ((bset X.a C.sts.length:Nat):Int),.slice hA X.hist.length hcap,.slice eA X.env.length ecap,.slice iA X.ins.length icap,.int .i64 X.st]).alloc (.cells #[.int .u32 0,.slice none 0 0,.slice none 0 0,.slice none 0 0,.int .i64 0] 31))
 have HRB:=Lib.hid (Blk.new_at (w.alloc (.cells #[.int .u32 ((bset X.a C.sts.length:Nat):Int),.slice hA X.hist.length hcap,.slice eA X.env.length ecap,.slice iA X.ins.length icap,.int .i64 X.st] 31)) 31 #[.int .u32 0,.slice none 0 0,.slice none 0 0,.slice none 0 0,.int .i64 0] (w.heap.size+1) (by simp))
 have HL:=Lib.hid (hL.after hb0)
 have HT:=Lib.hid (hT.below hb0)
 have HC:=Lib.hid hC
 have HO:Hid (Okb C X.hush 40):=Lib.hid ⟨⟨hok.wb,hok.snd,hok.hl,hok.lt,hok.el,hok.fit,hok.big,hok.il⟩,Nat.le_refl _,by show 0+10000 * 40≤500000; decide⟩
 have HCR:=Lib.hid (copyRun_any ((bset X.a C.sts.length:Nat):Int) _ _ _ X.hist X.env X.ins X.st _ (hH.below hb0) (by have:=hok.hl; have:=(tame_of hC.chk).len; omega) (hE.below hb0) (by have:=hok.el; have:=hC.vars; omega) (hI.below hb0) (by have:=hok.big; omega))
 obtain ⟨Z,hZ⟩:∃ Z,takeS C ev X.hush=Z:=⟨_,rfl⟩
 have HZ:=Lib.hid hZ
 rw [hZ]
 clear hL hT hC hb0 hZ hH hE hI hok
 go_enter Tryz.func22,Tryz.ntmps22
 go_wp2_with fail
 obtain ⟨⟨p0,p1,p2,p3,p4⟩,-⟩:=blk5_facts HX0.out
 generalize (w.alloc (.cells #[.int .u32 ((bset X.a C.sts.length:Nat):Int),.slice hA X.hist.length hcap,.slice eA X.env.length ecap,.slice iA X.ins.length icap,.int .i64 X.st] 31)).alloc (.cells #[.int .u32 0,.slice none 0 0,.slice none 0 0,.slice none 0 0,.int .i64 0] 31)=w1 at *
 refine HCR.out.mono ?_
 rintro e w2 ⟨hb2,vh2,ve2,vi2,rfl,hr2⟩
 obtain ⟨hA2,hcap2,rfl⟩:=hr2.hist.slice
 obtain ⟨eA2,ecap2,rfl⟩:=OwnEnv.slice hr2.env
 obtain ⟨iA2,icap2,rfl⟩:=own_slice hr2.ins
 have hbx:=below_box w2 (.cells #[.pointer (some ⟨t,0,none⟩),.int .u32 ((bset X.a C.sts.length:Nat):Int),.slice hA2 X.hist.length hcap2,.slice eA2 X.env.length ecap2,.slice iA2 X.ins.length icap2,.int .i64 X.st,.int .i64 40,.slice none 0 0] 100)
 have HS3:Hid (MsAt w1 t w2.heap.size C (w2.alloc (.cells #[.pointer (some ⟨t,0,none⟩),.int .u32 ((bset X.a C.sts.length:Nat):Int),.slice hA2 X.hist.length hcap2,.slice eA2 X.env.length ecap2,.slice iA2 X.ins.length icap2,.int .i64 X.st,.int .i64 40,.slice none 0 0] 100)) (.slice hA2 X.hist.length hcap2) (.slice eA2 X.env.length ecap2) (.slice iA2 X.ins.length icap2) (.slice none 0 0) X.hush 40) :=
  Lib.hid ⟨hb2.alloc hb2.size _,hb2.size,Blk.new w2 _ _,hr2.hist.below hbx,OwnEnv.below hr2.env hbx,(InAt.of_own hr2.ins).below hbx,World.ownsRow_nil _ _ _ _⟩
 clear hb2 hr2 hbx HCR p0 p1 p2 p3 p4 HX0
 go_wp2_with fail
 generalize w2.alloc (.cells #[.pointer (some ⟨t,0,none⟩),.int .u32 ((bset X.a C.sts.length:Nat):Int),.slice hA2 X.hist.length hcap2,.slice eA2 X.env.length ecap2,.slice iA2 X.ins.length icap2,.int .i64 X.st,.int .i64 40,.slice none 0 0] 100)=w3 at *
 generalize w2.heap.size=g at *
 refine (isGoing_any HS3.out).mono ?_
 rintro e w4 ⟨rfl,hb4⟩
 have HS4:=Lib.hid (HS3.out.after hb4)
 clear hb4 HS3
 have hst:X.hush.st=X.st:=rfl
 rw [hst]
 by_cases h1:X.st=1
 · have HH1:=Lib.hid h1
   rw [decide_eq_true h1]
   clear h1
   go_wp2_with fail
   refine (roundF_any HL.out HT.out HC.out HS4.out HO.out HH1.out ev).mono ?_
   rintro e w5 ⟨rfl,vh5,ve5,vi5,vo5,hs5⟩
   have hq:rndF C ev X.hush 40=(decide (rndL C ev X.hush ≠ []),rndS C ev X.hush,39):=rndF_succ C ev X.hush 39
   have hob:=HO.out.round HC.out HH1.out ev
   rw [hq] at hs5 hob ⊢
   have HS5:=Lib.hid hs5
   have HOB:=Lib.hid hob
   clear hs5 hq hob HS4
   go_wp2_with fail
   refine (settle_any HL.out HT.out HC.out HS5.out HOB.out (k:=42) ⟨fun _=>by decide,by decide⟩).mono ?_
   rintro e w9 ⟨rfl,f9,vh9,ve9,vi9,vo9,hs9,-⟩
   have HSZ:Hid (MsAt w1 t g C w9 vh9 ve9 vi9 vo9 Z f9):=Lib.hid (by rw [← HZ.out]; unfold takeS; rw [if_pos (show X.hush.st=1 from HH1.out)]; exact hs9)
   clear hs9 HS5 HOB
   have HSD:=Lib.hid HSZ.out.drew
   have HRD9:=Lib.hid ((HRB.out.below HSZ.out.below HRB.out.lt).drew)
   obtain ⟨hA9,hcap9,rfl⟩:=HSD.out.rows.hist.slice
   obtain ⟨eA9,ecap9,rfl⟩:=OwnEnv.slice HSD.out.rows.env
   obtain ⟨iA9,icap9,rfl⟩:=HSD.out.rows.ins.slice
   obtain ⟨oA9,ocap9,rfl⟩:=own_slice HSD.out.rows.out
   clear HSZ
   go_wp2_with fail
   refine anyD_start (fun W=>(W.cell? ⟨g,1,none⟩=some (.int .u32 ((bset Z.a C.sts.length:Nat):Int))∧W.cell? ⟨g,2,none⟩=some (.slice hA9 Z.hist.length hcap9)∧W.cell? ⟨g,3,none⟩=some (.slice eA9 Z.env.length ecap9)∧W.cell? ⟨g,4,none⟩=some (.slice iA9 Z.ins.length icap9)∧W.cell? ⟨g,5,none⟩=some (.int .i64 Z.st))∧W.cell? ⟨g,7,none⟩=some (.slice oA9 Z.out.length ocap9)) (fun i=>[].contains i) (by kernel_rfl) ?_
   try simp only [Act.put,sx]
   generalize w9.drew=w10 at *
   obtain ⟨x0,x1,x2,x3,x4,x5,x6,x7⟩:=HSD.out.cells
   obtain ⟨⟨p0,p1,p2,p3,p4⟩,q0,q1,q2,q3,q4⟩:=blk5_facts HRD9.out
   refine anyD_t 0 (.pointer (some ⟨g,1,none⟩)) ?_
   try simp only [Act.put,sx]
   refine anyD_l 1 (.agg #[.int .u32 ((bset Z.a C.sts.length:Nat):Int),.slice hA9 Z.hist.length hcap9,.slice eA9 Z.env.length ecap9,.slice iA9 Z.ins.length icap9,.int .i64 Z.st]) (⟨⟨x1,x2,x3,x4,x5⟩,x7⟩) ?_
   try simp only [Act.put,sx]
   refine anyD_t 2 (.pointer (some ⟨g,7,none⟩)) ?_
   try simp only [Act.put,sx]
   refine anyD_l 3 (.slice oA9 Z.out.length ocap9) (⟨⟨x1,x2,x3,x4,x5⟩,x7⟩) ?_
   try simp only [Act.put,sx]
   clear x0 x1 x2 x3 x4 x5 x6 x7
   have HS11:=Lib.hid (HSD.out.run_else_at HRD9.out (.int .u32 ((bset Z.a C.sts.length:Nat):Int)) (.slice hA9 Z.hist.length hcap9) (.slice eA9 Z.env.length ecap9) (.slice iA9 Z.ins.length icap9) (.int .i64 Z.st))
   obtain ⟨x1,x2,x3,x4,x5,x7⟩:=HS11.out.1
   have HMW:=Lib.hid (HS11.out.2.lower HB1.out.size)
   refine anyD_one (i:=4) rfl rfl (by kernel_rfl) (fun K HK=>?_)
   go_simp
   go_simp
   refine HK.out _ _ (fun _ hS=>⟨⟨x1,x2,x3,x4,x5⟩,x7⟩) ?_
   clear HK K
   try simp only [Act.put,sx]
   refine anyD_one (i:=5) rfl rfl (by kernel_rfl) (fun K HK=>?_)
   go_simp
   refine HK.out _ _ (fun _ hS=>hS) ?_
   clear HK K
   try simp only [Act.put,sx]
   refine anyD_done (by kernel_rfl) ?_
   go_wp2_with fail
   have hbz:=(((((HB1.out.trans (HSD.out.below.mono HB1.out.size)).setCell (p:=⟨w.heap.size+1,0,none⟩) (by simp) (.int .u32 ((bset Z.a C.sts.length:Nat):Int))).setCell (p:=⟨w.heap.size+1,1,none⟩) (by simp) (.slice hA9 Z.hist.length hcap9)).setCell (p:=⟨w.heap.size+1,2,none⟩) (by simp) (.slice eA9 Z.env.length ecap9)).setCell (p:=⟨w.heap.size+1,3,none⟩) (by simp) (.slice iA9 Z.ins.length icap9)).setCell (p:=⟨w.heap.size+1,4,none⟩) (by simp) (.int .i64 Z.st)
   refine bodyPost_ret (results_two rfl _ _ _ rfl (load_run (((((HRD9.out.set_ 0 _).set_ 1 _).set_ 2 _).set_ 3 _).set_ 4 _))) rfl ?_
   exact ⟨hbz,_,_,_,_,rfl,HMW.out⟩
 · have HH1:=Lib.hid h1
   rw [decide_eq_false h1]
   clear h1
   obtain ⟨w9,hw9⟩:∃ w9,w4=w9:=⟨_,rfl⟩
   subst hw9
   have HSZ:Hid (MsAt w1 t g C w4 (.slice hA2 X.hist.length hcap2) (.slice eA2 X.env.length ecap2) (.slice iA2 X.ins.length icap2) (.slice none 0 0) Z 40):=Lib.hid (by rw [← HZ.out]; unfold takeS; rw [if_neg (show ¬ X.hush.st=1 from HH1.out)]; exact HS4.out)
   have HZX:Hid (Z.hist=X.hist∧Z.env=X.env∧Z.ins=X.ins∧Z.out=[]):=Lib.hid (by rw [← HZ.out]; unfold takeS; rw [if_neg (show ¬ X.hush.st=1 from HH1.out)]; exact ⟨rfl,rfl,rfl,rfl⟩)
   clear HS4
   have HSD:=Lib.hid HSZ.out.drew
   have HRD9:=Lib.hid ((HRB.out.below HSZ.out.below HRB.out.lt).drew)
   obtain ⟨hA9,hcap9,hq1⟩:=HSD.out.rows.hist.slice
   obtain ⟨eA9,ecap9,hq2⟩:=OwnEnv.slice HSD.out.rows.env
   obtain ⟨iA9,icap9,hq3⟩:=HSD.out.rows.ins.slice
   obtain ⟨oA9,ocap9,hq4⟩:=own_slice HSD.out.rows.out
   rw [hq1,hq2,hq3,hq4] at HSD
   clear hq1 hq2 hq3 hq4
   clear HSZ
   go_wp2_with fail
   refine anyD_start (fun W=>(W.cell? ⟨g,1,none⟩=some (.int .u32 ((bset Z.a C.sts.length:Nat):Int))∧W.cell? ⟨g,2,none⟩=some (.slice hA9 Z.hist.length hcap9)∧W.cell? ⟨g,3,none⟩=some (.slice eA9 Z.env.length ecap9)∧W.cell? ⟨g,4,none⟩=some (.slice iA9 Z.ins.length icap9)∧W.cell? ⟨g,5,none⟩=some (.int .i64 Z.st))∧W.cell? ⟨g,7,none⟩=some (.slice oA9 Z.out.length ocap9)) (fun i=>[].contains i) (by kernel_rfl) ?_
   try simp only [Act.put,sx]
   generalize w4.drew=w10 at *
   obtain ⟨x0,x1,x2,x3,x4,x5,x6,x7⟩:=HSD.out.cells
   obtain ⟨⟨p0,p1,p2,p3,p4⟩,q0,q1,q2,q3,q4⟩:=blk5_facts HRD9.out
   refine anyD_t 0 (.pointer (some ⟨g,1,none⟩)) ?_
   try simp only [Act.put,sx]
   refine anyD_l 1 (.agg #[.int .u32 ((bset Z.a C.sts.length:Nat):Int),.slice hA9 Z.hist.length hcap9,.slice eA9 Z.env.length ecap9,.slice iA9 Z.ins.length icap9,.int .i64 Z.st]) (⟨⟨x1,x2,x3,x4,x5⟩,x7⟩) ?_
   try simp only [Act.put,sx]
   refine anyD_t 2 (.pointer (some ⟨g,7,none⟩)) ?_
   try simp only [Act.put,sx]
   refine anyD_l 3 (.slice oA9 Z.out.length ocap9) (⟨⟨x1,x2,x3,x4,x5⟩,x7⟩) ?_
   try simp only [Act.put,sx]
   clear x0 x1 x2 x3 x4 x5 x6 x7
   have HS11:=Lib.hid (HSD.out.run_else_at HRD9.out (.int .u32 ((bset Z.a C.sts.length:Nat):Int)) (.slice hA9 Z.hist.length hcap9) (.slice eA9 Z.env.length ecap9) (.slice iA9 Z.ins.length icap9) (.int .i64 Z.st))
   obtain ⟨x1,x2,x3,x4,x5,x7⟩:=HS11.out.1
   have HMW:=Lib.hid (HS11.out.2.lower HB1.out.size)
   refine anyD_one (i:=4) rfl rfl (by kernel_rfl) (fun K HK=>?_)
   go_simp
   go_simp
   refine HK.out _ _ (fun _ hS=>⟨⟨x1,x2,x3,x4,x5⟩,x7⟩) ?_
   clear HK K
   try simp only [Act.put,sx]
   refine anyD_one (i:=5) rfl rfl (by kernel_rfl) (fun K HK=>?_)
   go_simp
   refine HK.out _ _ (fun _ hS=>hS) ?_
   clear HK K
   try simp only [Act.put,sx]
   refine anyD_done (by kernel_rfl) ?_
   go_wp2_with fail
   have hbz:=(((((HB1.out.trans (HSD.out.below.mono HB1.out.size)).setCell (p:=⟨w.heap.size+1,0,none⟩) (by simp) (.int .u32 ((bset Z.a C.sts.length:Nat):Int))).setCell (p:=⟨w.heap.size+1,1,none⟩) (by simp) (.slice hA9 Z.hist.length hcap9)).setCell (p:=⟨w.heap.size+1,2,none⟩) (by simp) (.slice eA9 Z.env.length ecap9)).setCell (p:=⟨w.heap.size+1,3,none⟩) (by simp) (.slice iA9 Z.ins.length icap9)).setCell (p:=⟨w.heap.size+1,4,none⟩) (by simp) (.int .i64 Z.st)
   refine bodyPost_ret (results_two rfl _ _ _ rfl (load_run (((((HRD9.out.set_ 0 _).set_ 1 _).set_ 2 _).set_ 3 _).set_ 4 _))) rfl ?_
   exact ⟨hbz,_,_,_,_,rfl,HMW.out⟩
end

theorem npost_no {C:Ch} {w w':World} {e:Ending} (h:NPost C w e w') (hn:¬ chk hasTB C=.ok):Below w.heap.size w w'∧((∃ p,e=.returned (.tuple #[.pointer none,.iface 109 p])) ∨ ∃ p,e=.returned (.tuple #[.pointer none,.iface 111 p])):=by
 unfold NPost at h
 cases hc:chk hasTB C with
 | ok=>exact absurd hc hn
 | large =>
  rw [hc] at h
  exact ⟨h.1,.inl ⟨_,h.2⟩⟩
 | spot k c =>
  rw [hc] at h
  obtain ⟨hb,g,he,_⟩:=h
  exact ⟨hb,.inr ⟨_,he⟩⟩
theorem npost_yes {C:Ch} {w w':World} {e:Ending} (h:NPost C w e w') (hk:chk hasTB C=.ok):Below w.heap.size w w'∧∃ g,e=.returned (.tuple #[.pointer (some ⟨g,0,none⟩),.nilIface])∧w.heap.size≤g∧TreeAt w' g C:=by
 unfold NPost at h
 rw [hk] at h
 exact h

set_option maxHeartbeats 4000000 in
set_option maxRecDepth 100000 in
theorem ints_same2 (v u:Value) (L:List Int) (w:World) (hv:ListAt w v L) (hu:ListAt w u L) (hl:L.length≤1000000) :
 Calls Tryz.prog 50 #[v,u] w fun e w'=>e=.returned (.bool true)∧Below w.heap.size w w':=by
 obtain ⟨A,cap,rfl,hcap,he⟩:=hv
 obtain ⟨A',cap',rfl,hcap',he'⟩:=hu
 have HE:=Lib.hid he
 have HE':=Lib.hid he'
 clear he he'
 go_enter Tryz.func50,Tryz.ntmps50
 go_wp2_with fail
 go_loopw [5] (fun i wr=>∃ k:Nat,k≤L.length∧i=.int .i64 (k:Int)∧Below w.heap.size w wr) (fun i _=>L.length - (intOf i).toNat)
 case atStart=>exact ⟨0,Nat.zero_le _,rfl,Below.refl _ _⟩
 case round =>
  obtain ⟨k,hk,rfl,hb⟩:=hrel
  obtain ⟨wo,rfl⟩:∃ wo:World,wo=wr:=⟨_,rfl⟩
  by_cases hlt:k < L.length
  · obtain ⟨b,o,rfl,hbl,hc⟩:=HE.out k _ (List.getElem?_eq_getElem hlt)
    obtain ⟨b',o',rfl,hbl',hc'⟩:=HE'.out k _ (List.getElem?_eq_getElem hlt)
    have c0:wo.cell? ⟨b,o+k,none⟩=some (.int .i64 L[k]):=by have:=IntAt.keeps w wo b _ _ hb hbl hc; rwa [Nat.mul_one] at this
    have c0':wo.cell? ⟨b',o'+k,none⟩=some (.int .i64 L[k]):=by have:=IntAt.keeps w wo b' _ _ hb hbl' hc'; rwa [Nat.mul_one] at this
    generalize L[k]=x at *
    have HB:=Lib.hid hb
    have hxx:(x != x)=false:=by simp
    clear hc hc' hb
    go_wp2_with fail
    go_quiet (fail)
    go_wp2
    go_roundw
    case rel=>exact ⟨k+1,by omega,by go_num,below_drewN HB.out _⟩
    case measure=>simp [intOf]; omega
  · obtain rfl:k=L.length:=by omega
    go_wp2_with fail
    go_ret
    exact ⟨rfl,hb⟩
set_option maxHeartbeats 4000000 in
set_option maxRecDepth 100000 in
theorem same12_any (va vb:Value) (n:Nat) (X:Se) (w:World) (ha:RunAt w n va X) (hb:RunAt w n vb X) (hHl:X.hist.length≤1000) (hEl:X.env.length≤1000) (hIl:X.ins.length≤1000000) :
 Calls Tryz.prog 15 #[va,vb] w fun e w'=>e=.returned (.bool true)∧Below w.heap.size w w':=by
 obtain ⟨av,H,E,I,st,O⟩:=X
 obtain ⟨vh,ve,vi,rfl,h1,h2,h3⟩:=ha
 obtain ⟨uh,ue,ui,rfl,k1,k2,k3⟩:=hb
 dsimp only at h1 h2 h3 k1 k2 k3 hHl hEl hIl ⊢
 obtain ⟨hA,hcap,rfl,hhe⟩:=RowsAt.slice h1
 obtain ⟨eA,ecap,rfl,hee⟩:=RowsAt.slice (rows_of_nums h2)
 obtain ⟨iA,icap,rfl,hie⟩:=RowsAt.slice h3
 obtain ⟨hA2,hcap2,rfl,khe⟩:=RowsAt.slice k1
 obtain ⟨eA2,ecap2,rfl,kee⟩:=RowsAt.slice (rows_of_nums k2)
 obtain ⟨iA2,icap2,rfl,kie⟩:=RowsAt.slice k3
 have HH:=Lib.hid h1
 have HK:=Lib.hid k1
 have HNS:=Lib.hid (fun (W:World) (h:Below w.heap.size w W)=>nums_same _ _ E W (h2.below h) (k2.below h) hEl)
 have HIS:=Lib.hid (fun (W:World) (h:Below w.heap.size w W)=>ints_same2 _ _ I W (h3.below h) (k3.below h) hIl)
 obtain ⟨N,hN⟩:∃ N:Int,((bset av n:Nat):Int)=N:=⟨_,rfl⟩
 rw [hN]
 have hnn:(N != N)=false:=by simp
 have hss:(st != st)=false:=by simp
 have hb0:Below w.heap.size w ((w.alloc (.cells #[.int .u32 N,.slice hA H.length hcap,.slice eA E.length ecap,.slice iA I.length icap,.int .i64 st] 31)).alloc (.cells #[.int .u32 N,.slice hA2 H.length hcap2,.slice eA2 E.length ecap2,.slice iA2 I.length icap2,.int .i64 st] 31)):=(below_box w _).alloc (by simp) _
 have hx0:=(Blk.new w 31 #[.int .u32 N,.slice hA H.length hcap,.slice eA E.length ecap,.slice iA I.length icap,.int .i64 st]).alloc (.cells #[.int .u32 N,.slice hA2 H.length hcap2,.slice eA2 E.length ecap2,.slice iA2 I.length icap2,.int .i64 st] 31)
 have hy0:=Blk.new_at (w.alloc (.cells #[.int .u32 N,.slice hA H.length hcap,.slice eA E.length ecap,.slice iA I.length icap,.int .i64 st] 31)) 31 #[.int .u32 N,.slice hA2 H.length hcap2,.slice eA2 E.length ecap2,.slice iA2 I.length icap2,.int .i64 st] (w.heap.size+1) (by simp)
 have HB0:=Lib.hid hb0
 have HX0:=Lib.hid hx0
 have HY0:=Lib.hid hy0
 clear h1 h2 h3 k1 k2 k3 hN hb0 hx0 hy0 hhe hee hie khe kee kie
 go_enter Tryz.func15,Tryz.ntmps15
 go_wp2_with fail
 generalize (w.alloc (.cells #[.int .u32 N,.slice hA H.length hcap,.slice eA E.length ecap,.slice iA I.length icap,.int .i64 st] 31)).alloc (.cells #[.int .u32 N,.slice hA2 H.length hcap2,.slice eA2 E.length ecap2,.slice iA2 I.length icap2,.int .i64 st] 31)=w1 at *
 have h1s:w.heap.size≤w1.heap.size:=HB0.out.size
 go_loopw [5] (fun i wr=>∃ k:Nat,k≤H.length∧i=.int .i64 (k:Int)∧Below w1.heap.size w1 wr) (fun i _=>H.length - (intOf i).toNat)
 case atStart=>exact ⟨0,Nat.zero_le _,rfl,Below.refl _ _⟩
 case round =>
  obtain ⟨k,hk,rfl,hb⟩:=hrel
  obtain ⟨wo,rfl⟩:∃ wo:World,wo=wr:=⟨_,rfl⟩
  obtain ⟨⟨x0,x1,x2,x3,x4⟩,-⟩:=blk5_facts (HX0.out.below hb HX0.out.lt)
  obtain ⟨⟨y0,y1,y2,y3,y4⟩,-⟩:=blk5_facts (HY0.out.below hb HY0.out.lt)
  have HB:=Lib.hid hb
  have HBW:Hid (Below w.heap.size w wo):=Lib.hid (HB0.out.trans (hb.mono h1s))
  by_cases hlt:k < H.length
  · obtain ⟨_,_,q1,_,q3⟩:=HH.out.below HBW.out
    injection q1 with e1 e2 e3
    subst e1
    obtain ⟨b,o,rfl,hbl,hc⟩:=q3 k _ (List.getElem?_eq_getElem hlt)
    obtain ⟨_,_,r1,_,r3⟩:=HK.out.below HBW.out
    injection r1 with e4 e5 e6
    subst e4
    obtain ⟨b',o',rfl,hbl',hc'⟩:=r3 k _ (List.getElem?_eq_getElem hlt)
    have c0:=hc.1
    have c0':=hc'.1
    rw [Nat.mul_one] at c0 c0'
    generalize H[k]=x at *
    have hxx:((x:Int) != (x:Int))=false:=by simp
    clear hc hc' hb q3 r3 e2 e3 e5 e6
    go_wp2_with fail
    go_quiet (fail)
    go_wp2
    go_roundw
    case rel=>exact ⟨k+1,by omega,by go_num,below_drewN HB.out _⟩
    case measure=>simp [intOf]; omega
  · obtain rfl:k=H.length:=by omega
    clear hb
    go_wp2_with fail
    refine (HNS.out _ HBW.out).mono ?_
    rintro e w2 ⟨rfl,hb2⟩
    have HB2:=Lib.hid (HBW.out.trans (hb2.mono HBW.out.size))
    obtain ⟨⟨u0,u1,u2,u3,u4⟩,-⟩:=blk5_facts ((HX0.out.below HB.out HX0.out.lt).below hb2 (HX0.out.below HB.out HX0.out.lt).lt)
    obtain ⟨⟨z0,z1,z2,z3,z4⟩,-⟩:=blk5_facts ((HY0.out.below HB.out HY0.out.lt).below hb2 (HY0.out.below HB.out HY0.out.lt).lt)
    clear hb2 x0 x1 x2 x3 x4 y0 y1 y2 y3 y4
    go_wp2_with fail
    refine (HIS.out _ HB2.out).mono ?_
    rintro e w3 ⟨rfl,hb3⟩
    have HB3:=Lib.hid (HB2.out.trans (hb3.mono HB2.out.size))
    clear hb3
    go_wp2_with fail
    go_ret
    exact ⟨rfl,HB3.out⟩
section
variable {w0:World} {g ba:Nat} {vs vt:Value} {C:Ch} {fu:Int} {w:World} {vh ve vi vo:Value} {X:Se}
end

def chM:Ch:=⟨0,[⟨2,-1,[1],[],[]⟩,⟨1,0,[],[],[]⟩],[]⟩
theorem chkM:chk hasTB chM=.ok:=by kernel_rfl
theorem fewM:fewB chM=true:=by kernel_rfl
theorem startM_a:((bset (startS chM).a chM.sts.length:Nat):Int)=3:=by kernel_rfl
theorem startM_st:(startS chM).st=1:=by kernel_rfl
theorem still_hush {C:Ch} {X:Se} (h:X.st=1→Still C X):X.hush.st=1→Still C X.hush:=fun h1=>⟨(h h1).ins,(h h1).none,(h h1).well⟩
theorem okw_hush {C:Ch} {X:Se} (h:Okw C X):Okw C X.hush:=⟨h.wb,h.snd,h.hl,h.lt,h.el,h.fit,h.big,h.il⟩
theorem run_hush {w:World} {n:Nat} {v:Value} {X:Se} (h:RunAt w n v X):RunAt w n v X.hush:=h
theorem takeM:takeS chM 5 (startS chM).hush=(startS chM).hush:=take_idle (fun t ht=>by cases ht) (still_hush (start_ok (chk_mk chkM fewM)).2)
abbrev twoCellsM (vi:Value):Array Value:=#[.int .i64 2,.int .i64 (-1),vi,.slice none 0 0,.slice none 0 0,.int .i64 1,.int .i64 0,.slice none 0 0,.slice none 0 0,.slice none 0 0]
abbrev stTwoM (vi:Value):Obj:=.cells (twoCellsM vi) 65
theorem up_hasM {W:World} {g0 g1:Nat} (h0:Blk W g0 3 #[.int .i64 1]) (h:Blk W g1 65 (twoCellsM (.slice (some ⟨g0,0,none⟩) 1 1))):ChHas W (.slice (some ⟨g1,0,none⟩) 2 2) (.slice none 0 0) chM:=by
 have hL:ListAt W (.slice (some ⟨g0,0,none⟩) 1 1) [1]:=one_list g0 h0
 refine ⟨⟨_,2,rfl,Nat.le_refl _,fun i x hx=>?_⟩,RowsAt.nil W⟩
 match i,hx with
 | 0,hx =>
  simp [chM] at hx
  subst hx
  exact ⟨g1,0,rfl,h.lt,_,_,_,⟨h.cell 0,h.cell 1,h.cell 2,h.cell 3,h.cell 4⟩,hL,RowsAt.nil W,RowsAt.nil W⟩
 | 1,hx =>
  simp [chM] at hx
  subst hx
  exact ⟨g1,0,rfl,h.lt,_,_,_,⟨h.cell 5,h.cell 6,h.cell 7,h.cell 8,h.cell 9⟩,RowsAt.nil W,RowsAt.nil W,RowsAt.nil W⟩
 | i+2,hx=>simp [chM] at hx
set_option maxHeartbeats 8000000 in
set_option maxRecDepth 100000 in
theorem upM_any (w:World) (hL:Laid w):Calls Tryz.prog 16 #[] w fun e w'=>e=.returned (.bool true)∧Below w.heap.size w w':=by
 have hnn:=neq_nil_nil
 have HL:=Lib.hid hL
 clear hL
 have hk0:=(Blk.new w 3 #[.int .i64 1]).alloc (stTwoM (.slice (some ⟨w.heap.size,0,none⟩) 1 1))
 have hk1:=Blk.new_at (w.alloc (.cells #[.int .i64 1] 3)) 65 (twoCellsM (.slice (some ⟨w.heap.size,0,none⟩) 1 1)) (w.heap.size+1) (by simp)
 have HB0:=Lib.hid (((Below.refl w.heap.size w).alloc (Nat.le_refl _) (.cells #[.int .i64 1] 3)).alloc (by simp) (stTwoM (.slice (some ⟨w.heap.size,0,none⟩) 1 1)))
 have HC:=Lib.hid (up_hasM hk0 hk1)
 clear hk0 hk1
 go_enter Tryz.func16,Tryz.ntmps16
 go_wp2_with fail
 refine (new_any _ _ chM _ (HL.out.after HB0.out) HC.out fewM).mono ?_
 intro e w1 hp
 obtain ⟨hb1,t,rfl,_,hT⟩:=npost_yes hp chkM
 have HB1:=Lib.hid (HB0.out.trans (hb1.mono HB0.out.size))
 have HT1:=Lib.hid hT
 have hno:=fun W=>nilT_no t W
 have HL1:=Lib.hid (HL.out.after HB1.out)
 clear hb1 hT hp HC HB0 HL
 go_wp2_with fail
 refine (mstart_any HL1.out HT1.out (chk_mk chkM fewM)).mono ?_
 rintro e w2 ⟨hb2,vh2,ve2,vi2,vo2,rfl,hm2⟩
 have HOK:Hid (Okw chM (startS chM)∧((startS chM).st=1→Still chM (startS chM))):=Lib.hid (start_ok (chk_mk chkM fewM))
 obtain ⟨hA,hcap,rfl⟩:=hm2.hist.slice
 obtain ⟨eA,ecap,rfl⟩:=OwnEnv.slice hm2.env
 obtain ⟨iA,icap,rfl⟩:=hm2.ins.slice
 obtain ⟨oA,ocap,rfl⟩:=own_slice hm2.out
 have hr2:=hm2.run (n:=chM.sts.length)
 have HTK:Hid (takeS chM 5 (startS chM).hush=(startS chM).hush):=Lib.hid takeM
 have hHl:(startS chM).hist.length≤1000:=by have:=HOK.out.1.hl; rw [this]; decide
 have hEl:(startS chM).env.length≤1000:=by have:=HOK.out.1.el; rw [this]; decide
 have hIl:=HOK.out.1.big
 have ha:=startM_a
 have hs:=startM_st
 have HR2:=Lib.hid hr2
 rw [ha,hs]
 rw [ha,hs] at HR2
 have HA:=Lib.hid ha
 have HST:=Lib.hid hs
 have HLN:=Lib.hid (And.intro hHl (And.intro hEl hIl))
 clear ha hs hr2 hm2 hHl hEl hIl
 generalize startS chM=X at *
 generalize X.hist.length=hl at *
 generalize X.env.length=el at *
 generalize X.ins.length=il at *
 generalize X.out.length=ol at *
 have HB2:=Lib.hid (HB1.out.trans (hb2.mono HB1.out.size))
 have HT2:=Lib.hid (HT1.out.below hb2)
 have HL2:=Lib.hid (HL1.out.after hb2)
 have hbx:=below_box w2 (.cells #[.int .u32 3,.slice hA hl hcap,.slice eA el ecap,.slice iA il icap,.int .i64 1] 31)
 have HX3:=Lib.hid (Blk.new w2 31 #[.int .u32 3,.slice hA hl hcap,.slice eA el ecap,.slice iA il icap,.int .i64 1])
 have HB3:=Lib.hid (HB2.out.trans (hbx.mono HB2.out.size))
 have HT3:=Lib.hid (HT2.out.below hbx)
 have HL3:=Lib.hid (HL2.out.after hbx)
 have HR3:=Lib.hid (RunAt.below HR2.out hbx)
 clear hb2 HB1 HT1 HL1 HB2 HT2 HL2 HR2 hbx
 obtain ⟨⟨x0,x1,x2,x3,x4⟩,-⟩:=blk5_facts HX3.out
 go_wp2_with fail
 generalize w2.alloc (.cells #[.int .u32 3,.slice hA hl hcap,.slice eA el ecap,.slice iA il icap,.int .i64 1] 31)=w3 at *
 refine (mtake_any HL3.out HT3.out (chk_mk chkM fewM) _ HR3.out HOK.out.1 5).mono ?_
 rw [HTK.out]
 rintro e w4 ⟨hb4,vh4,ve4,vi4,vo4,rfl,hm4⟩
 have ha4:((bset X.hush.a chM.sts.length:Nat):Int)=3:=HA.out
 have hs4:X.hush.st=1:=HST.out
 have hr4:=hm4.run (n:=chM.sts.length)
 obtain ⟨hA4,hcap4,rfl⟩:=hm4.hist.slice
 obtain ⟨eA4,ecap4,rfl⟩:=OwnEnv.slice hm4.env
 obtain ⟨iA4,icap4,rfl⟩:=hm4.ins.slice
 obtain ⟨oA4,ocap4,rfl⟩:=own_slice hm4.out
 rw [ha4,hs4] at hr4 ⊢
 clear ha4 hs4 hm4
 generalize X.hush.hist.length=hl4 at *
 generalize X.hush.env.length=el4 at *
 generalize X.hush.ins.length=il4 at *
 generalize X.hush.out.length=ol4 at *
 have hbx:=below_box w4 (.cells #[.int .u32 3,.slice hA4 hl4 hcap4,.slice eA4 el4 ecap4,.slice iA4 il4 icap4,.int .i64 1] 31)
 have HY5:=Lib.hid (Blk.new w4 31 #[.int .u32 3,.slice hA4 hl4 hcap4,.slice eA4 el4 ecap4,.slice iA4 il4 icap4,.int .i64 1])
 have HX5:=Lib.hid ((HX3.out.below hb4 HX3.out.lt).below hbx (HX3.out.below hb4 HX3.out.lt).lt)
 have HB5:=Lib.hid ((HB3.out.trans (hb4.mono HB3.out.size)).trans (hbx.mono (HB3.out.trans (hb4.mono HB3.out.size)).size))
 have HR5:=Lib.hid (RunAt.below (RunAt.below HR3.out hb4) hbx)
 have HS5:=Lib.hid (RunAt.below hr4 hbx)
 clear hb4 hr4 hbx x0 x1 x2 x3 x4 HR3 HX3
 obtain ⟨⟨x0,x1,x2,x3,x4⟩,-⟩:=blk5_facts HX5.out
 obtain ⟨⟨y0,y1,y2,y3,y4⟩,-⟩:=blk5_facts HY5.out
 go_wp2_with fail
 refine (same12_any _ _ chM.sts.length X.hush _ (run_hush HR5.out) HS5.out (by have:=HOK.out.1.hl; show X.hist.length≤1000; rw [this]; decide) (by have:=HOK.out.1.el; show X.env.length≤1000; rw [this]; decide) (by have:=HOK.out.1.big; show X.ins.length≤1000000; omega)).mono ?_
 rintro e w6 ⟨rfl,hb6⟩
 have HB6:=Lib.hid (HB5.out.trans (hb6.mono HB5.out.size))
 clear hb6 x0 x1 x2 x3 x4 y0 y1 y2 y3 y4
 go_wp2_with fail
 go_ret
 exact ⟨rfl,HB6.out⟩
end Go.Proofs.YtgofpbdbeegoeaaGreatDoor
