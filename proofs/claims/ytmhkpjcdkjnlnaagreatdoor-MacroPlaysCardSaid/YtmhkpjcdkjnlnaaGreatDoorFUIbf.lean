/- The contracts of micro's Begin and First. -/
import Derived.Test.YtmhkpjcdkjnlnaaGreatDoorFUIfi
import Derived.Test.YtmhkpjcdkjnlnaaGreatDoorFUIst
import Derived.Test.YtmhkpjcdkjnlnaaGreatDoorFUIfp
import Derived.Laws.ResultCell
namespace Go.Proofs.YtmhkpjcdkjnlnaaGreatDoor
open Go.ChangeShapes Go.WideShapes Go.ChangeAt Go.RowKit
set_option linter.unusedVariables false

theorem results_two {fn:Func} {r u:Tmp} {ty:TypeId} {cs:Array Value} (hr:fn.results=#[.cell r ty,.tmp u]) (tmps:Array Value) (w:World) (g:Nat) (hp:tmps.getD r undef=.pointer (some ⟨g,0,none⟩)) (hl:(loadVar ty ⟨g,0,none⟩).run Tryz.prog w=.ok (.agg cs) w) :
 (results fn tmps).run Tryz.prog w=.ok (.tuple #[.agg cs,tmps.getD u undef]) w:=by
 simp at hp
 simp [results,hr,hp,asAddr,hl]
theorem load_run {w:World} {g:Nat} {a b c d e:Value} (hB:Blk w g 38 #[a,b,c,d,e]):(loadVar 38 ⟨g,0,none⟩).run Tryz.prog w=.ok (.agg #[a,b,c,d,e]) w:=run_loadVar_row (P:=Tryz.prog) w g 38 38 _ (0,0) _ hB Tryz.underlying38 rfl (by kernel_rfl)
theorem made_row {z:Value} {n k:Nat} (hk:k < n):(madeCells #[z] n)[k]?=some z:=by simp [madeCells,hk,Nat.mod_one]
theorem made_rowAt {ρ:Type} {cells:ρ→List Value} {r:ρ} {z:Value} (hz:cells r=[z]) {w:World} {g n:Nat} {e:TypeId} {B:Nat} (hB:B≤g) (h:Blk w g e (madeCells #[z] n)):RowAt B w e 1 cells (.slice (some ⟨g,0,none⟩) n n) (List.replicate n r):=by
 refine .inr ⟨g,n,_,by rw [List.length_replicate],hB,h,by rw [List.length_replicate]; exact Nat.le_refl _,fun i r' j u hr hu=>?_⟩
 obtain ⟨hi,hr'⟩:=List.getElem?_eq_some_iff.1 hr
 rw [List.length_replicate] at hi
 rw [List.getElem_replicate] at hr'
 subst hr'
 rw [hz] at hu
 cases j with
 | zero =>
  simp at hu
  subst hu
  rw [Nat.mul_one,Nat.add_zero]
  exact made_row hi
 | succ j=>simp at hu
theorem vars_of {C:Ch} (h:chk hasTB C=.ok):0≤C.vars∧C.vars≤8:=by
 have:=(chk_ok h).1
 unfold sizedB fromB at this
 simp only [Bool.and_eq_true,decide_eq_true_eq] at this
 exact ⟨this.1.1.1,this.1.1.2⟩
theorem pad_full (n:Nat):padH n (List.replicate n 0)=List.replicate n 0:=by
 unfold padH
 rw [List.length_replicate,Nat.sub_self]
 simp
set_option maxHeartbeats 8000000 in
set_option maxRecDepth 100000 in
theorem begin_any (t:Nat) (C:Ch) (w:World) (hT:TreeAt w t C) (hk:chk hasTB C=.ok) (hFw:fewB C=true) :
 Calls Tryz.prog 66 #[.pointer (some ⟨t,0,none⟩)] w fun e w'=>Below w.heap.size w w'∧∃ v,e=.returned v∧RunAt w' C.sts.length v (beg C):=by
 have hcl:=(tame_of hk).len
 have hv:=vars_of hk
 obtain ⟨iU,hi,hz0,hz1,hz2⟩:=info_parts Tryz.infoU
 obtain ⟨iL,ji,jz0,jz1,jz2⟩:=info_parts Tryz.info2
 obtain ⟨sn,hsn⟩:∃ sn:Nat,C.vars=(sn:Int):=⟨C.vars.toNat,by omega⟩
 have hst:C.vars.toNat=sn:=by omega
 have HMU:Hid (∀ W:World,(Instr.makeSlice 34 (.int .i64 (C.sts.length:Int)) (.int .i64 (C.sts.length:Int))).run Tryz.prog W=.ok (.slice (some ⟨W.heap.size,0,none⟩) C.sts.length C.sts.length) (W.alloc (.cells (madeCells #[.int .u32 0] C.sts.length) 33))):=Lib.hid (fun W=>by
  have:=run_make (P:=Tryz.prog) W 34 33 iU (.int .u32 0) Tryz.underlying34 hi hz0 .i64 .i64 (C.sts.length:Int) (C.sts.length:Int) (by omega) (by omega) (by rw [hz2]; omega) (by omega)
  rw [hz1] at this
  simpa [Value.cells] using this)
 have HML:Hid (∀ W:World,(Instr.makeSlice 35 (.int .i64 (sn:Int)) (.int .i64 (sn:Int))).run Tryz.prog W=.ok (.slice (some ⟨W.heap.size,0,none⟩) sn sn) (W.alloc (.cells (madeCells #[.int .i64 0] sn) 2))):=Lib.hid (fun W=>by
  have:=run_make (P:=Tryz.prog) W 35 2 iL (.int .i64 0) Tryz.underlying35 ji jz0 .i64 .i64 (sn:Int) (sn:Int) (by omega) (by omega) (by rw [jz2]; omega) (by omega)
  rw [jz1] at this
  simpa [Value.cells] using this)
 have hb0:=below_box w (.cells #[.int .u32 0,.slice none 0 0,.slice none 0 0,.slice none 0 0,.int .i64 0] 38)
 have HB0:=Lib.hid hb0
 have HBX:=Lib.hid (Blk.new w 38 #[.int .u32 0,.slice none 0 0,.slice none 0 0,.slice none 0 0,.int .i64 0])
 have HCH:=Lib.hid (chartT_any t C _ (hT.below hb0) hFw)
 have hnt:=fun W=>nilT_no t W
 have HEND:Hid (∀ (W:World) (v:Value) (gu gl:Nat),Below w.heap.size w W→w.heap.size≤gu→w.heap.size≤gl→Blk W gu 33 (madeCells #[.int .u32 0] C.sts.length)→Blk W gl 2 (madeCells #[.int .i64 0] sn)→v=.agg #[.int .u32 0,.slice (some ⟨gu,0,none⟩) C.sts.length C.sts.length,.slice (some ⟨gl,0,none⟩) sn sn,.slice none 0 0,.int .i64 1] →
  Below w.heap.size w W∧∃ v',Ending.returned v=.returned v'∧RunAt W C.sts.length v' (beg C)):=Lib.hid (fun W v gu gl hb h1 h2 h3 h4 hvv=>by
  refine ⟨hb,v,rfl,.slice (some ⟨gu,0,none⟩) C.sts.length C.sts.length,.slice (some ⟨gl,0,none⟩) sn sn,.slice none 0 0,?_,?_,?_,RowsAt.nil _⟩
  · rw [hvv]
    show _=Value.agg #[.int .u32 ((bset (fun _=>false) C.sts.length:Nat):Int),_,_,_,_]
    rw [bset_none]
    rfl
  · exact OwnHist.hist (B:=w.heap.size) ⟨made_rowAt (r:=0) rfl h1 h3,fun x hx=>by rw [List.eq_of_mem_replicate hx]; decide⟩
  · show NumsAt W _ (List.replicate C.vars.toNat 0)
    rw [hst]
    exact OwnEnv.nums (B:=w.heap.size) (made_rowAt (r:=0) rfl h2 h4))
 clear hT hb0 hi hz0 hz1 hz2 ji jz0 jz1 jz2 hv hk hFw
 go_enter Tryz.func66,Tryz.ntmps66
 go_wp2_with fail
 refine HCH.out.mono ?_
 rintro e w2 ⟨hb2,vs,vt,he,hown2⟩
 obtain ⟨sA,scap,tA,tcap,rfl,rfl⟩:=hown2.has.slices
 rw [hsn] at he
 subst he
 have HB2:Hid (Below w.heap.size w w2):=Lib.hid (HB0.out.trans (hb2.mono (by simp)))
 have HX2:=Lib.hid (HBX.out.below hb2 HBX.out.lt)
 have hwl:w.heap.size < w2.heap.size:=HX2.out.lt
 clear hb2 hown2 HBX HCH HB0
 go_wp2_with fail
 have HY:=Lib.hid (Blk.new w2 25 #[.int .i64 (sn:Int),.slice sA C.sts.length scap,.slice tA C.trs.length tcap]).drew
 have HX3:=Lib.hid (HX2.out.alloc (.cells #[.int .i64 (sn:Int),.slice sA C.sts.length scap,.slice tA C.trs.length tcap] 25)).drew
 have HB3:=Lib.hid (HB2.out.alloc HB2.out.size (.cells #[.int .i64 (sn:Int),.slice sA C.sts.length scap,.slice tA C.trs.length tcap] 25)).drew
 refine anyD_start (fun W=>W.cell? ⟨w2.heap.size,0,none⟩=some (.int .i64 (sn:Int))∧W.cell? ⟨w2.heap.size,1,none⟩=some (.slice sA C.sts.length scap)) (fun i=>[8].contains i) (by kernel_rfl) ?_
 try simp only [Act.put,sx]
 generalize (w2.alloc (.cells #[.int .i64 (sn:Int),.slice sA C.sts.length scap,.slice tA C.trs.length tcap] 25)).drew=w3 at *
 have h3s:w.heap.size≤w3.heap.size:=HB3.out.size
 have h3l:w.heap.size < w3.heap.size:=HX3.out.lt
 obtain ⟨⟨y0,y1,y2⟩,-⟩:=HY.out.facts3
 refine anyD_t 0 (.pointer (some ⟨w2.heap.size,1,none⟩)) ?_
 try simp only [Act.put,sx]
 refine anyD_l 1 (.slice sA C.sts.length scap) (⟨y0,y1⟩) ?_
 try simp only [Act.put,sx]
 refine anyD_t 2 (.int .i64 (C.sts.length:Int)) ?_
 try simp only [Act.put,sx]
 refine anyD_t 4 (.pointer (some ⟨w2.heap.size,0,none⟩)) ?_
 try simp only [Act.put,sx]
 refine anyD_l 5 (.int .i64 (sn:Int)) (⟨y0,y1⟩) ?_
 try simp only [Act.put,sx]
 refine anyD_two (i:=3) (j:=6) rfl rfl rfl rfl (by kernel_rfl) (fun K HK=>?orderA) (fun K HK=>?orderB)
 case' orderA =>
  have hmk:=HMU.out w3
  have HY4:=Lib.hid (HY.out.alloc (.cells (madeCells #[.int .u32 0] C.sts.length) 33))
  go_simp
  refine HK.out _ _ (fun _ hS=>⟨HY4.out.facts3.1.1,HY4.out.facts3.1.2.1⟩) ?_
  clear HK K hmk
  try simp only [Act.put,sx]
  refine anyD_one (i:=6) rfl rfl (by kernel_rfl) (fun K HK=>?_)
  go_simp
  have hmk:=HML.out (w3.alloc (.cells (madeCells #[.int .u32 0] C.sts.length) 33))
  have HY5:=Lib.hid (HY4.out.alloc (.cells (madeCells #[.int .i64 0] sn) 2))
  go_simp
  refine HK.out _ _ (fun _ hS=>⟨HY5.out.facts3.1.1,HY5.out.facts3.1.2.1⟩) ?_
  clear HK K hmk
  try simp only [Act.put,sx]
  refine anyD_t 7 (.agg #[.int .u32 0,.slice (some ⟨w3.heap.size,0,none⟩) C.sts.length C.sts.length,.slice (some ⟨(w3.heap.size+1),0,none⟩) sn sn,.slice none 0 0,.int .i64 1]) ?_
  try simp only [Act.put,sx]
  have HX4:=Lib.hid ((HX3.out.alloc (.cells (madeCells #[.int .u32 0] C.sts.length) 33)).alloc (.cells (madeCells #[.int .i64 0] sn) 2))
  have HB4:=Lib.hid ((HB3.out.alloc h3s (.cells (madeCells #[.int .u32 0] C.sts.length) 33)).alloc (by simp; omega) (.cells (madeCells #[.int .i64 0] sn) 2))
  have HU4:=Lib.hid (((Blk.new w3 33 (madeCells #[.int .u32 0] C.sts.length)).alloc (.cells (madeCells #[.int .i64 0] sn) 2)))
  have HW4:=Lib.hid (Blk.new_at (w3.alloc (.cells (madeCells #[.int .u32 0] C.sts.length) 33)) 2 (madeCells #[.int .i64 0] sn) (w3.heap.size+1) (by simp))
  generalize (w3.alloc (.cells (madeCells #[.int .u32 0] C.sts.length) 33)).alloc (.cells (madeCells #[.int .i64 0] sn) 2)=w4 at *
  obtain ⟨⟨p0,p1,p2,p3,p4⟩,q0,q1,q2,q3,q4⟩:=blk5_facts HX4.out
  refine anyD_one (i:=8) rfl rfl (by kernel_rfl) (fun K HK=>?_)
  go_simp
  go_simp
  refine HK.out _ _ (fun h=>absurd h (by decide)) ?_
  clear HK K
  try simp only [Act.put,sx]
  refine anyD_done (by kernel_rfl) ?_
  go_wp2_with fail
  have hb5:=(((((HB4.out.setCell (p:=⟨w.heap.size,0,none⟩) (Nat.le_refl _) (.int .u32 0)).setCell (p:=⟨w.heap.size,1,none⟩) (Nat.le_refl _) (.slice (some ⟨w3.heap.size,0,none⟩) C.sts.length C.sts.length)).setCell (p:=⟨w.heap.size,2,none⟩) (Nat.le_refl _) (.slice (some ⟨(w3.heap.size+1),0,none⟩) sn sn)).setCell (p:=⟨w.heap.size,3,none⟩) (Nat.le_refl _) (.slice none 0 0)).setCell (p:=⟨w.heap.size,4,none⟩) (Nat.le_refl _) (.int .i64 1))
  have hu5:=((((HU4.out.set_ne (g':=w.heap.size) (by omega) 0 (.int .u32 0)).set_ne (g':=w.heap.size) (by omega) 1 (.slice (some ⟨w3.heap.size,0,none⟩) C.sts.length C.sts.length)).set_ne (g':=w.heap.size) (by omega) 2 (.slice (some ⟨(w3.heap.size+1),0,none⟩) sn sn)).set_ne (g':=w.heap.size) (by omega) 3 (.slice none 0 0)).set_ne (g':=w.heap.size) (by omega) 4 (.int .i64 1)
  have hw5:=((((HW4.out.set_ne (g':=w.heap.size) (by omega) 0 (.int .u32 0)).set_ne (g':=w.heap.size) (by omega) 1 (.slice (some ⟨w3.heap.size,0,none⟩) C.sts.length C.sts.length)).set_ne (g':=w.heap.size) (by omega) 2 (.slice (some ⟨(w3.heap.size+1),0,none⟩) sn sn)).set_ne (g':=w.heap.size) (by omega) 3 (.slice none 0 0)).set_ne (g':=w.heap.size) (by omega) 4 (.int .i64 1)
  refine bodyPost_ret (results_own rfl _ _ _ rfl (load_run (((((HX4.out.set_ 0 _).set_ 1 _).set_ 2 _).set_ 3 _).set_ 4 _))) rfl ?_
  exact HEND.out _ _ w3.heap.size (w3.heap.size+1) hb5 (by omega) (by omega) hu5 hw5 rfl
 case' orderB =>
  have hmk:=HML.out w3
  have HY4:=Lib.hid (HY.out.alloc (.cells (madeCells #[.int .i64 0] sn) 2))
  go_simp
  refine HK.out _ _ (fun _ hS=>⟨HY4.out.facts3.1.1,HY4.out.facts3.1.2.1⟩) ?_
  clear HK K hmk
  try simp only [Act.put,sx]
  refine anyD_one (i:=3) rfl rfl (by kernel_rfl) (fun K HK=>?_)
  go_simp
  have hmk:=HMU.out (w3.alloc (.cells (madeCells #[.int .i64 0] sn) 2))
  have HY5:=Lib.hid (HY4.out.alloc (.cells (madeCells #[.int .u32 0] C.sts.length) 33))
  go_simp
  refine HK.out _ _ (fun _ hS=>⟨HY5.out.facts3.1.1,HY5.out.facts3.1.2.1⟩) ?_
  clear HK K hmk
  try simp only [Act.put,sx]
  refine anyD_t 7 (.agg #[.int .u32 0,.slice (some ⟨(w3.heap.size+1),0,none⟩) C.sts.length C.sts.length,.slice (some ⟨w3.heap.size,0,none⟩) sn sn,.slice none 0 0,.int .i64 1]) ?_
  try simp only [Act.put,sx]
  have HX4:=Lib.hid ((HX3.out.alloc (.cells (madeCells #[.int .i64 0] sn) 2)).alloc (.cells (madeCells #[.int .u32 0] C.sts.length) 33))
  have HB4:=Lib.hid ((HB3.out.alloc h3s (.cells (madeCells #[.int .i64 0] sn) 2)).alloc (by simp; omega) (.cells (madeCells #[.int .u32 0] C.sts.length) 33))
  have HU4:=Lib.hid (Blk.new_at (w3.alloc (.cells (madeCells #[.int .i64 0] sn) 2)) 33 (madeCells #[.int .u32 0] C.sts.length) (w3.heap.size+1) (by simp))
  have HW4:=Lib.hid (((Blk.new w3 2 (madeCells #[.int .i64 0] sn)).alloc (.cells (madeCells #[.int .u32 0] C.sts.length) 33)))
  generalize (w3.alloc (.cells (madeCells #[.int .i64 0] sn) 2)).alloc (.cells (madeCells #[.int .u32 0] C.sts.length) 33)=w4 at *
  obtain ⟨⟨p0,p1,p2,p3,p4⟩,q0,q1,q2,q3,q4⟩:=blk5_facts HX4.out
  refine anyD_one (i:=8) rfl rfl (by kernel_rfl) (fun K HK=>?_)
  go_simp
  go_simp
  refine HK.out _ _ (fun h=>absurd h (by decide)) ?_
  clear HK K
  try simp only [Act.put,sx]
  refine anyD_done (by kernel_rfl) ?_
  go_wp2_with fail
  have hb5:=(((((HB4.out.setCell (p:=⟨w.heap.size,0,none⟩) (Nat.le_refl _) (.int .u32 0)).setCell (p:=⟨w.heap.size,1,none⟩) (Nat.le_refl _) (.slice (some ⟨(w3.heap.size+1),0,none⟩) C.sts.length C.sts.length)).setCell (p:=⟨w.heap.size,2,none⟩) (Nat.le_refl _) (.slice (some ⟨w3.heap.size,0,none⟩) sn sn)).setCell (p:=⟨w.heap.size,3,none⟩) (Nat.le_refl _) (.slice none 0 0)).setCell (p:=⟨w.heap.size,4,none⟩) (Nat.le_refl _) (.int .i64 1))
  have hu5:=((((HU4.out.set_ne (g':=w.heap.size) (by omega) 0 (.int .u32 0)).set_ne (g':=w.heap.size) (by omega) 1 (.slice (some ⟨(w3.heap.size+1),0,none⟩) C.sts.length C.sts.length)).set_ne (g':=w.heap.size) (by omega) 2 (.slice (some ⟨w3.heap.size,0,none⟩) sn sn)).set_ne (g':=w.heap.size) (by omega) 3 (.slice none 0 0)).set_ne (g':=w.heap.size) (by omega) 4 (.int .i64 1)
  have hw5:=((((HW4.out.set_ne (g':=w.heap.size) (by omega) 0 (.int .u32 0)).set_ne (g':=w.heap.size) (by omega) 1 (.slice (some ⟨(w3.heap.size+1),0,none⟩) C.sts.length C.sts.length)).set_ne (g':=w.heap.size) (by omega) 2 (.slice (some ⟨w3.heap.size,0,none⟩) sn sn)).set_ne (g':=w.heap.size) (by omega) 3 (.slice none 0 0)).set_ne (g':=w.heap.size) (by omega) 4 (.int .i64 1)
  refine bodyPost_ret (results_own rfl _ _ _ rfl (load_run (((((HX4.out.set_ 0 _).set_ 1 _).set_ 2 _).set_ 3 _).set_ 4 _))) rfl ?_
  exact HEND.out _ _ (w3.heap.size+1) w3.heap.size hb5 (by omega) (by omega) hu5 hw5 rfl
def RunOw (B:Nat) (w:World) (n:Nat) (v vo:Value) (X:Se):Prop:=∃ vh ve vi,v=.agg #[.int .u32 ((bset X.a n:Nat):Int),vh,ve,vi,.int .i64 X.st]∧RwAt B w vh ve vi vo X
theorem RwAt.lower {B B':Nat} {w:World} {vh ve vi vo:Value} {X:Se} (h:RwAt B w vh ve vi vo X) (hB:B'≤B):RwAt B' w vh ve vi vo X:=⟨h.hist.lower hB,RowAt.lower h.env hB,own_base h.ins hB,own_base h.out hB⟩
theorem RunOw.run {B:Nat} {w:World} {n:Nat} {v vo:Value} {X:Se} (h:RunOw B w n v vo X):RunAt w n v X:=by
 obtain ⟨vh,ve,vi,h0,h1⟩:=h
 exact ⟨vh,ve,vi,h0,h1.hist.hist,OwnEnv.nums h1.env,(OwnInts.of_own h1.ins (Nat.le_refl _)).list⟩
theorem RunOw.outs {B:Nat} {w:World} {n:Nat} {v vo:Value} {X:Se} (h:RunOw B w n v vo X):OutsAt w vo X.out:=by
 obtain ⟨vh,ve,vi,h0,h1⟩:=h
 exact OwnOuts.outs h1.out
def FPost (C:Ch) (w:World) (e:Ending) (w':World):Prop:=Below w.heap.size w w'∧∃ v vo,e=.returned (.tuple #[v,vo])∧RunOw w.heap.size w' C.sts.length v vo (fstS C)
theorem beg_pad (C:Ch):(⟨(beg C).a,padH C.sts.length (beg C).hist,(beg C).env,(beg C).ins,(beg C).st,[]⟩:Se)=beg C:=by
 unfold beg
 simp only
 rw [pad_full]
set_option maxHeartbeats 8000000 in
set_option maxRecDepth 100000 in
theorem mfirst_any (t:Nat) (C:Ch) (w:World) (hL:Laid w) (hT:TreeAt w t C) (hk:chk hasTB C=.ok) (hFw:fewB C=true) :
 Calls Tryz.prog 31 #[.pointer (some ⟨t,0,none⟩)] w (FPost C w):=by
 have hta:=tame_of hk
 have hcl:=hta.len
 have hpos:=hta.pos
 have hv:=vars_of hk
 have hb0:=below_box w (.cells #[.int .u32 0,.slice none 0 0,.slice none 0 0,.slice none 0 0,.int .i64 0] 38)
 have HB0:=Lib.hid hb0
 have HBX:=Lib.hid (Blk.new w 38 #[.int .u32 0,.slice none 0 0,.slice none 0 0,.slice none 0 0,.int .i64 0])
 have HBG:=Lib.hid (begin_any t C _ (hT.below hb0) hk hFw)
 have hnt:=fun W=>nilT_no t W
 have HL:=Lib.hid hL
 have HT:=Lib.hid hT
 have HV:=Lib.hid (beg_lim hv)
 have HSF:=Lib.hid (fun (W:World) (vh ve vi:Value) (h:Below w.heap.size w W) (h1:HistAt W vh (beg C).hist) (h2:NumsAt W ve (beg C).env) (h3:ListAt W vi (beg C).ins)=>stepFrom_any t C W (hL.after h) (hT.below h) hk hFw (beg C).a vh ve vi (beg C).hist (beg C).env (beg C).ins (beg C).st h1 (by show (List.replicate _ _).length≤_; rw [List.length_replicate]; omega) h2 (beg_lim hv).env h3 (by show ([]:List Int).length≤_; simp))
 rw [beg_pad] at HSF
 have HFS:Hid (fstS C=entU C.sts (fun k=>(pSet C.sts (enS C.sts ((0:Nat):Int) (beg C)).hist 0 (stAt C.sts ((0:Nat):Int)).ini).a k && !(enS C.sts ((0:Nat):Int) (beg C)).a k) C.sts.length (enS C.sts ((0:Nat):Int) (beg C))):=Lib.hid rfl
 have HHL:Hid ((enS C.sts ((0:Nat):Int) (beg C)).hist.length≤1000):=Lib.hid (by rw [enS_hist]; show (List.replicate _ _).length≤_; rw [List.length_replicate]; omega)
 have HIF:Hid ((stAt C.sts ((0:Nat):Int)).ini.length≤1000):=Lib.hid (by
  have:=(few_parts hFw).2.2.1 0 hpos
  unfold fewStB at this
  simp only [Bool.and_eq_true,decide_eq_true_eq] at this
  have:=this.2
  show (C.sts.getD (((0:Nat):Int)).toNat noSt).ini.length≤1000
  exact Nat.le_trans this (by omega))
 clear hL hT hk hFw hb0 hta hv
 go_enter Tryz.func31,Tryz.ntmps31
 go_wp2_with fail
 refine HBG.out.mono ?_
 rintro e w2 ⟨hb2,v,rfl,hr2⟩
 obtain ⟨vh,ve,vi,rfl,h1,h2,h3⟩:=hr2
 have HB2:=Lib.hid (HB0.out.trans (hb2.mono HB0.out.size))
 have HX2:=Lib.hid (HBX.out.below hb2 HBX.out.lt)
 have HSF2:=Lib.hid (HSF.out w2 vh ve vi HB2.out h1 h2 h3)
 clear hb2 h1 h2 h3 HBG HSF HB0 HBX
 go_wp2_with fail
 refine HSF2.out.mono ?_
 rintro e w3 ⟨w0,g,vs,vt,vh3,ve3,vi3,rfl,hb3,hF,hS3⟩
 have HW0:Hid (w.heap.size≤w0.heap.size):=Lib.hid (Nat.le_trans HB2.out.size hb3.size)
 have HF:=Lib.hid hF
 have HB3:=Lib.hid (HB2.out.trans (hb3.mono HB2.out.size))
 have HX3:=Lib.hid (HX2.out.below hb3 HX2.out.lt)
 have HEN:=Lib.hid (enterOne_any hF hS3 HV.out (by omega) 0 hpos)
 clear hb3 hF hS3 HSF2
 go_wp2_with fail
 refine HEN.out.mono ?_
 rintro e w4 ⟨rfl,vh4,ve4,vi4,vo4,hs4⟩
 have HLX:=Lib.hid (enS_lim (fun s=>(HF.out.acts s).1.1) ((0:Nat):Int) HV.out)
 obtain ⟨X1,hX1⟩:∃ X1,enS C.sts ((0:Nat):Int) (beg C)=X1:=⟨_,rfl⟩
 rw [hX1] at hs4 HFS HHL HLX
 have HS4:=Lib.hid hs4
 obtain ⟨b,o,cap',ui,ue,ux,hsl,hoc,hbl,hstt,hhas⟩:=HF.out.has.st hpos
 subst hsl
 obtain ⟨-,-,c2,-,-⟩:=hstt.below hs4.below hbl
 have c2':w4.cell? ⟨b,o+2,none⟩=some ui:=by simpa using c2
 have HLI:=Lib.hid (hhas.1.below hs4.below)
 obtain ⟨iA,icap,rfl,hic⟩:=RowsAt.slice hhas.1
 obtain ⟨⟨x0,x1,x2,x3,x4⟩,x5,x6,x7,x8,x9⟩:=hs4.cells
 have HBE:=Lib.hid (below_anyM HF.out HS4.out HHL.out 0 _ _ HLI.out HIF.out)
 clear hs4 HEN c2 hstt hhas hic hX1
 generalize (stAt C.sts ((0:Nat):Int)).ini=IL at *
 go_wp2_with fail
 refine HBE.out.mono ?_
 rintro e w5 ⟨rfl,hb5⟩
 have HS5:=Lib.hid (HS4.out.after hb5)
 have HEA:=Lib.hid (enterAll_any HF.out HS5.out HLX.out (by omega) (pSet C.sts X1.hist 0 IL).a)
 clear hb5 HBE x0 x1 x2 x3 x4 x5 x6 x7 x8 x9 c2'
 go_wp2_with fail
 refine HEA.out.mono ?_
 rintro e w6 ⟨rfl,vh6,ve6,vi6,vo6,hs6⟩
 rw [← HFS.out] at hs6
 obtain ⟨hA6,hcap6,rfl⟩:=hs6.rows.hist.slice
 obtain ⟨eA6,ecap6,rfl⟩:=hs6.rows.env.slice
 obtain ⟨iA6,icap6,rfl⟩:=own_slice hs6.rows.ins
 obtain ⟨oA6,ocap6,rfl⟩:=own_slice hs6.rows.out
 have HS6:=Lib.hid hs6.drew
 have HX6:=Lib.hid ((HX3.out.below hs6.below HX3.out.lt).drew)
 have HB6:=Lib.hid ((HB3.out.trans (hs6.below.mono HB3.out.size)).drew)
 clear hs6 HEA HFS
 obtain ⟨Y,hY⟩:∃ Y,fstS C=Y:=⟨_,rfl⟩
 rw [hY] at HS6
 have HYY:=Lib.hid hY
 clear hY
 go_wp2_with fail
 obtain ⟨⟨-,-,-,-,x4⟩,x5,x6,x7,x8,x9⟩:=HS6.out.cells
 obtain ⟨⟨p0,p1,p2,p3,p4⟩,q0,q1,q2,q3,q4⟩:=blk5_facts HX6.out
 refine anyD_start (fun W=>(W.cell? ⟨g,4,none⟩=some (.int .u32 ((bset Y.a C.sts.length:Nat):Int))∧W.cell? ⟨g,5,none⟩=some (.slice hA6 Y.hist.length hcap6)∧W.cell? ⟨g,6,none⟩=some (.slice eA6 Y.env.length ecap6)∧W.cell? ⟨g,7,none⟩=some (.slice iA6 Y.ins.length icap6)∧W.cell? ⟨g,8,none⟩=some (.int .i64 Y.st))∧W.cell? ⟨g,9,none⟩=some (.slice oA6 Y.out.length ocap6)) (fun i=>[].contains i) (by kernel_rfl) ?_
 try simp only [Act.put,sx]
 generalize w6.drew=w7 at *
 refine anyD_t 0 (.pointer (some ⟨g,0,none⟩)) ?_
 try simp only [Act.put,sx]
 refine anyD_t 1 (.pointer (some ⟨g,0,none⟩)) ?_
 try simp only [Act.put,sx]
 refine anyD_t 2 (.pointer (some ⟨g,4,none⟩)) ?_
 try simp only [Act.put,sx]
 refine anyD_l 3 (.agg #[.int .u32 ((bset Y.a C.sts.length:Nat):Int),.slice hA6 Y.hist.length hcap6,.slice eA6 Y.env.length ecap6,.slice iA6 Y.ins.length icap6,.int .i64 Y.st]) (⟨⟨x4,x5,x6,x7,x8⟩,x9⟩) ?_
 try simp only [Act.put,sx]
 refine anyD_t 4 (.pointer (some ⟨g,0,none⟩)) ?_
 try simp only [Act.put,sx]
 refine anyD_t 5 (.pointer (some ⟨g,0,none⟩)) ?_
 try simp only [Act.put,sx]
 refine anyD_t 6 (.pointer (some ⟨g,9,none⟩)) ?_
 try simp only [Act.put,sx]
 refine anyD_l 7 (.slice oA6 Y.out.length ocap6) (⟨⟨x4,x5,x6,x7,x8⟩,x9⟩) ?_
 try simp only [Act.put,sx]
 have hgne:g ≠ w.heap.size:=by have:=HS6.out.ge; have:=HX3.out.lt; omega
 have hg7:=((((HS6.out.blk.set_ne hgne 0 (.int .u32 ((bset Y.a C.sts.length:Nat):Int))).set_ne hgne 1 (.slice hA6 Y.hist.length hcap6)).set_ne hgne 2 (.slice eA6 Y.env.length ecap6)).set_ne hgne 3 (.slice iA6 Y.ins.length icap6)).set_ne hgne 4 (.int .i64 Y.st)
 have HG7:=Lib.hid hg7
 clear hg7
 refine anyD_one (i:=8) rfl rfl (by kernel_rfl) (fun K HK=>?_)
 go_simp
 go_simp
 refine HK.out _ _ (fun _ hS=>⟨⟨HG7.out.cell 4,HG7.out.cell 5,HG7.out.cell 6,HG7.out.cell 7,HG7.out.cell 8⟩,HG7.out.cell 9⟩) ?_
 clear HK K
 try simp only [Act.put,sx]
 refine anyD_one (i:=9) rfl rfl (by kernel_rfl) (fun K HK=>?_)
 go_simp
 refine HK.out _ _ (fun _ hS=>hS) ?_
 clear HK K
 try simp only [Act.put,sx]
 refine anyD_done (by kernel_rfl) ?_
 go_wp2_with fail
 have r1:=HS6.out.rows.apart HX6.out (by decide) (by decide) (by decide) (by decide) 0 (.int .u32 ((bset Y.a C.sts.length:Nat):Int))
 have k1:=HX6.out.set_ 0 (.int .u32 ((bset Y.a C.sts.length:Nat):Int))
 have r2:=r1.apart k1 (by decide) (by decide) (by decide) (by decide) 1 (.slice hA6 Y.hist.length hcap6)
 have k2:=k1.set_ 1 (.slice hA6 Y.hist.length hcap6)
 have r3:=r2.apart k2 (by decide) (by decide) (by decide) (by decide) 2 (.slice eA6 Y.env.length ecap6)
 have k3:=k2.set_ 2 (.slice eA6 Y.env.length ecap6)
 have r4:=r3.apart k3 (by decide) (by decide) (by decide) (by decide) 3 (.slice iA6 Y.ins.length icap6)
 have k4:=k3.set_ 3 (.slice iA6 Y.ins.length icap6)
 have r5:=r4.apart k4 (by decide) (by decide) (by decide) (by decide) 4 (.int .i64 Y.st)
 have k5:=k4.set_ 4 (.int .i64 Y.st)
 have hb7:=(((((HB6.out.setCell (p:=⟨w.heap.size,0,none⟩) (Nat.le_refl _) (.int .u32 ((bset Y.a C.sts.length:Nat):Int))).setCell (p:=⟨w.heap.size,1,none⟩) (Nat.le_refl _) (.slice hA6 Y.hist.length hcap6)).setCell (p:=⟨w.heap.size,2,none⟩) (Nat.le_refl _) (.slice eA6 Y.env.length ecap6)).setCell (p:=⟨w.heap.size,3,none⟩) (Nat.le_refl _) (.slice iA6 Y.ins.length icap6)).setCell (p:=⟨w.heap.size,4,none⟩) (Nat.le_refl _) (.int .i64 Y.st))
 refine bodyPost_ret (results_two rfl _ _ _ rfl (load_run k5)) rfl ?_
 have hY:=HYY.out
 subst hY
 exact ⟨hb7,_,_,rfl,_,_,_,rfl,r5.lower HW0.out⟩
end Go.Proofs.YtmhkpjcdkjnlnaaGreatDoor
