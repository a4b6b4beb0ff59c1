/- The contracts of micro's Begin and First. -/
import Derived.Test.YtgofpbdbeegoeaaGreatDoorFUIfi
import Derived.Test.YtgofpbdbeegoeaaGreatDoorFUIst
import Derived.Test.YtgofpbdbeegoeaaGreatDoorFUIfp
import Derived.Laws.ResultCell
import Derived.Test.YtgofpbdbeegoeaaGreatDoorFUHref
namespace Go.Proofs.YtgofpbdbeegoeaaGreatDoor
open Go.ChangeShapes Go.WideShapes Go.ChangeAt Go.RowKit
set_option linter.unusedVariables false

theorem results_two {fn:Func} {r u:Tmp} {ty:TypeId} {cs:Array Value} (hr:fn.results=#[.cell r ty,.tmp u]) (tmps:Array Value) (w:World) (g:Nat) (hp:tmps.getD r undef=.pointer (some ⟨g,0,none⟩)) (hl:(loadVar ty ⟨g,0,none⟩).run Tryz.prog w=.ok (.agg cs) w) :
 (results fn tmps).run Tryz.prog w=.ok (.tuple #[.agg cs,tmps.getD u undef]) w:=by
 simp at hp
 simp [results,hr,hp,asAddr,hl]
theorem load_run {w:World} {g:Nat} {a b c d e:Value} (hB:Blk w g 31 #[a,b,c,d,e]):(loadVar 31 ⟨g,0,none⟩).run Tryz.prog w=.ok (.agg #[a,b,c,d,e]) w:=run_loadVar_row (P:=Tryz.prog) w g 31 31 _ (0,0) _ hB Tryz.underlying31 rfl (by kernel_rfl)
theorem made_row {z:Value} {n k:Nat} (hk:k < n):(madeCells #[z] n)[k]?=some z:=by simp [madeCells,hk,Nat.mod_one]
theorem made_rowAt {ρ:Type} {cells:ρ→List Value} {r:ρ} {z:Value} (hz:cells r=[z]) {w:World} {g n:Nat} {e:TypeId} {B:Nat} (hB:B≤g) (h:Blk w g e (madeCells #[z] n)):RowAt B w e 1 cells (.slice (some ⟨g,0,none⟩) n n) (List.replicate n r):=by
 refine .inr ⟨g,n,_,by rw [List.length_replicate],hB,h,by rw [List.length_replicate]; exact Nat.le_refl _,fun i r' j u hr hu=>?_⟩
 obtain ⟨hi,hr'⟩:=List.getElem?_eq_some_iff.1 hr
 rw [List.length_replicate] at hi
 rw [List.getElem_replicate] at hr'
 subst hr'
 rw [hz] at hu
 cases j with
 | zero =>
  simp at hu
  subst hu
  rw [Nat.mul_one,Nat.add_zero]
  exact made_row hi
 | succ j=>simp at hu
theorem vars_of {C:Ch} (h:chk hasTB C=.ok):0≤C.vars∧C.vars≤8:=by
 have:=(chk_ok h).1
 unfold sizedB fromB at this
 simp only [Bool.and_eq_true,decide_eq_true_eq] at this
 exact ⟨this.1.1.1,this.1.1.2⟩
theorem pad_full (n:Nat):padH n (List.replicate n 0)=List.replicate n 0:=by
 unfold padH
 rw [List.length_replicate,Nat.sub_self]
 simp
set_option maxHeartbeats 8000000 in
set_option maxRecDepth 100000 in
theorem begin_any (t:Nat) (C:Ch) (w:World) (hT:TreeAt w t C) (hk:chk hasTB C=.ok) (hFw:fewB C=true) :
 Calls Tryz.prog 24 #[.pointer (some ⟨t,0,none⟩)] w fun e w'=>Below w.heap.size w w'∧∃ v,e=.returned v∧RunAt w' C.sts.length v (beg C):=by
 have hcl:=(tame_of hk).len
 have hv:=vars_of hk
 obtain ⟨iU,hi,hz0,hz1,hz2⟩:=info_parts Tryz.infoU
 obtain ⟨iL,ji,jz0,jz1,jz2⟩:=info_parts Tryz.info2
 obtain ⟨sn,hsn⟩:∃ sn:Nat,C.vars=(sn:Int):=⟨C.vars.toNat,by omega⟩
 have hst:C.vars.toNat=sn:=by omega
 have HMU:Hid (∀ W:World,(Instr.makeSlice 27 (.int .i64 (C.sts.length:Int)) (.int .i64 (C.sts.length:Int))).run Tryz.prog W=.ok (.slice (some ⟨W.heap.size,0,none⟩) C.sts.length C.sts.length) (W.alloc (.cells (madeCells #[.int .u32 0] C.sts.length) 26))):=Lib.hid (fun W=>by
  have:=run_make (P:=Tryz.prog) W 27 26 iU (.int .u32 0) Tryz.underlying27 hi hz0 .i64 .i64 (C.sts.length:Int) (C.sts.length:Int) (by omega) (by omega) (by rw [hz2]; omega) (by omega)
  rw [hz1] at this
  simpa [Value.cells] using this)
 have HML:Hid (∀ W:World,(Instr.makeSlice 28 (.int .i64 (sn:Int)) (.int .i64 (sn:Int))).run Tryz.prog W=.ok (.slice (some ⟨W.heap.size,0,none⟩) sn sn) (W.alloc (.cells (madeCells #[.int .i64 0] sn) 2))):=Lib.hid (fun W=>by
  have:=run_make (P:=Tryz.prog) W 28 2 iL (.int .i64 0) Tryz.underlying28 ji jz0 .i64 .i64 (sn:Int) (sn:Int) (by omega) (by omega) (by rw [jz2]; omega) (by omega)
  rw [jz1] at this
  simpa [Value.cells] using this)
 have hb0:=below_box w (.cells #[.int .u32 0,.slice none 0 0,.slice none 0 0,.slice none 0 0,.int .i64 0] 31)
 have HB0:=Lib.hid hb0
 have HBX:=Lib.hid (Blk.new w 31 #[.int .u32 0,.slice none 0 0,.slice none 0 0,.slice none 0 0,.int .i64 0])
 have HCH:=Lib.hid (chartT_any t C _ (hT.below hb0) hFw)
 have hnt:=fun W=>nilT_no t W
 have HEND:Hid (∀ (W:World) (v:Value) (gu gl:Nat),Below w.heap.size w W→w.heap.size≤gu→w.heap.size≤gl→Blk W gu 26 (madeCells #[.int .u32 0] C.sts.length)→Blk W gl 2 (madeCells #[.int .i64 0] sn)→v=.agg #[.int .u32 0,.slice (some ⟨gu,0,none⟩) C.sts.length C.sts.length,.slice (some ⟨gl,0,none⟩) sn sn,.slice none 0 0,.int .i64 1] →
  Below w.heap.size w W∧∃ v',Ending.returned v=.returned v'∧RunAt W C.sts.length v' (beg C)):=Lib.hid (fun W v gu gl hb h1 h2 h3 h4 hvv=>by
  refine ⟨hb,v,rfl,.slice (some ⟨gu,0,none⟩) C.sts.length C.sts.length,.slice (some ⟨gl,0,none⟩) sn sn,.slice none 0 0,?_,?_,?_,RowsAt.nil _⟩
  · rw [hvv]
    show _=Value.agg #[.int .u32 ((bset (fun _=>false) C.sts.length:Nat):Int),_,_,_,_]
    rw [bset_none]
    rfl
  · exact OwnHist.hist (B:=w.heap.size) ⟨made_rowAt (r:=0) rfl h1 h3,fun x hx=>by rw [List.eq_of_mem_replicate hx]; decide⟩
  · show NumsAt W _ (List.replicate C.vars.toNat 0)
    rw [hst]
    exact OwnEnv.nums (B:=w.heap.size) (made_rowAt (r:=0) rfl h2 h4))
 clear hT hb0 hi hz0 hz1 hz2 ji jz0 jz1 jz2 hv hk hFw
 go_enter Tryz.func24,Tryz.ntmps24
 go_wp2_with fail
 refine HCH.out.mono ?_
 rintro e w2 ⟨hb2,vs,vt,he,hown2⟩
 obtain ⟨sA,scap,tA,tcap,rfl,rfl⟩:=hown2.has.slices
 rw [hsn] at he
 subst he
 have HB2:Hid (Below w.heap.size w w2):=Lib.hid (HB0.out.trans (hb2.mono (by simp)))
 have HX2:=Lib.hid (HBX.out.below hb2 HBX.out.lt)
 have hwl:w.heap.size < w2.heap.size:=HX2.out.lt
 clear hb2 hown2 HBX HCH HB0
 go_wp2_with fail
 have HY:=Lib.hid (Blk.new w2 25 #[.int .i64 (sn:Int),.slice sA C.sts.length scap,.slice tA C.trs.length tcap]).drew
 have HX3:=Lib.hid (HX2.out.alloc (.cells #[.int .i64 (sn:Int),.slice sA C.sts.length scap,.slice tA C.trs.length tcap] 25)).drew
 have HB3:=Lib.hid (HB2.out.alloc HB2.out.size (.cells #[.int .i64 (sn:Int),.slice sA C.sts.length scap,.slice tA C.trs.length tcap] 25)).drew
 refine anyD_start (fun W=>W.cell? ⟨w2.heap.size,0,none⟩=some (.int .i64 (sn:Int))∧W.cell? ⟨w2.heap.size,1,none⟩=some (.slice sA C.sts.length scap)) (fun i=>[8].contains i) (by kernel_rfl) ?_
 try simp only [Act.put,sx]
 generalize (w2.alloc (.cells #[.int .i64 (sn:Int),.slice sA C.sts.length scap,.slice tA C.trs.length tcap] 25)).drew=w3 at *
 have h3s:w.heap.size≤w3.heap.size:=HB3.out.size
 have h3l:w.heap.size < w3.heap.size:=HX3.out.lt
 obtain ⟨⟨y0,y1,y2⟩,-⟩:=HY.out.facts3
 refine anyD_t 0 (.pointer (some ⟨w2.heap.size,1,none⟩)) ?_
 try simp only [Act.put,sx]
 refine anyD_l 1 (.slice sA C.sts.length scap) (⟨y0,y1⟩) ?_
 try simp only [Act.put,sx]
 refine anyD_t 2 (.int .i64 (C.sts.length:Int)) ?_
 try simp only [Act.put,sx]
 refine anyD_t 4 (.pointer (some ⟨w2.heap.size,0,none⟩)) ?_
 try simp only [Act.put,sx]
 refine anyD_l 5 (.int .i64 (sn:Int)) (⟨y0,y1⟩) ?_
 try simp only [Act.put,sx]
 refine anyD_two (i:=3) (j:=6) rfl rfl rfl rfl (by kernel_rfl) (fun K HK=>?orderA) (fun K HK=>?orderB)
 case' orderA =>
  have hmk:=HMU.out w3
  have HY4:=Lib.hid (HY.out.alloc (.cells (madeCells #[.int .u32 0] C.sts.length) 26))
  go_simp
  refine HK.out _ _ (fun _ hS=>⟨HY4.out.facts3.1.1,HY4.out.facts3.1.2.1⟩) ?_
  clear HK K hmk
  try simp only [Act.put,sx]
  refine anyD_one (i:=6) rfl rfl (by kernel_rfl) (fun K HK=>?_)
  go_simp
  have hmk:=HML.out (w3.alloc (.cells (madeCells #[.int .u32 0] C.sts.length) 26))
  have HY5:=Lib.hid (HY4.out.alloc (.cells (madeCells #[.int .i64 0] sn) 2))
  go_simp
  refine HK.out _ _ (fun _ hS=>⟨HY5.out.facts3.1.1,HY5.out.facts3.1.2.1⟩) ?_
  clear HK K hmk
  try simp only [Act.put,sx]
  refine anyD_t 7 (.agg #[.int .u32 0,.slice (some ⟨w3.heap.size,0,none⟩) C.sts.length C.sts.length,.slice (some ⟨(w3.heap.size+1),0,none⟩) sn sn,.slice none 0 0,.int .i64 1]) ?_
  try simp only [Act.put,sx]
  have HX4:=Lib.hid ((HX3.out.alloc (.cells (madeCells #[.int .u32 0] C.sts.length) 26)).alloc (.cells (madeCells #[.int .i64 0] sn) 2))
  have HB4:=Lib.hid ((HB3.out.alloc h3s (.cells (madeCells #[.int .u32 0] C.sts.length) 26)).alloc (by simp; omega) (.cells (madeCells #[.int .i64 0] sn) 2))
  have HU4:=Lib.hid (((Blk.new w3 26 (madeCells #[.int .u32 0] C.sts.length)).alloc (.cells (madeCells #[.int .i64 0] sn) 2)))
  have HW4:=Lib.hid (Blk.new_at (w3.alloc (.cells (madeCells #[.int .u32 0] C.sts.length) 26)) 2 (madeCells #[.int .i64 0] sn) (w3.heap.size+1) (by simp))
  generalize (w3.alloc (.cells (madeCells #[.int .u32 0] C.sts.length) 26)).alloc (.cells (madeCells #[.int .i64 0] sn) 2)=w4 at *
  obtain ⟨⟨p0,p1,p2,p3,p4⟩,q0,q1,q2,q3,q4⟩:=blk5_facts HX4.out
  refine anyD_one (i:=8) rfl rfl (by kernel_rfl) (fun K HK=>?_)
  go_simp
  go_simp
  refine HK.out _ _ (fun h=>absurd h (by decide)) ?_
  clear HK K
  try simp only [Act.put,sx]
  refine anyD_done (by kernel_rfl) ?_
  go_wp2_with fail
  have hb5:=(((((HB4.out.setCell (p:=⟨w.heap.size,0,none⟩) (Nat.le_refl _) (.int .u32 0)).setCell (p:=⟨w.heap.size,1,none⟩) (Nat.le_refl _) (.slice (some ⟨w3.heap.size,0,none⟩) C.sts.length C.sts.length)).setCell (p:=⟨w.heap.size,2,none⟩) (Nat.le_refl _) (.slice (some ⟨(w3.heap.size+1),0,none⟩) sn sn)).setCell (p:=⟨w.heap.size,3,none⟩) (Nat.le_refl _) (.slice none 0 0)).setCell (p:=⟨w.heap.size,4,none⟩) (Nat.le_refl _) (.int .i64 1))
  have hu5:=((((HU4.out.set_ne (g':=w.heap.size) (by omega) 0 (.int .u32 0)).set_ne (g':=w.heap.size) (by omega) 1 (.slice (some ⟨w3.heap.size,0,none⟩) C.sts.length C.sts.length)).set_ne (g':=w.heap.size) (by omega) 2 (.slice (some ⟨(w3.heap.size+1),0,none⟩) sn sn)).set_ne (g':=w.heap.size) (by omega) 3 (.slice none 0 0)).set_ne (g':=w.heap.size) (by omega) 4 (.int .i64 1)
  have hw5:=((((HW4.out.set_ne (g':=w.heap.size) (by omega) 0 (.int .u32 0)).set_ne (g':=w.heap.size) (by omega) 1 (.slice (some ⟨w3.heap.size,0,none⟩) C.sts.length C.sts.length)).set_ne (g':=w.heap.size) (by omega) 2 (.slice (some ⟨(w3.heap.size+1),0,none⟩) sn sn)).set_ne (g':=w.heap.size) (by omega) 3 (.slice none 0 0)).set_ne (g':=w.heap.size) (by omega) 4 (.int .i64 1)
  refine bodyPost_ret (results_own rfl _ _ _ rfl (load_run (((((HX4.out.set_ 0 _).set_ 1 _).set_ 2 _).set_ 3 _).set_ 4 _))) rfl ?_
  exact HEND.out _ _ w3.heap.size (w3.heap.size+1) hb5 (by omega) (by omega) hu5 hw5 rfl
 case' orderB =>
  have hmk:=HML.out w3
  have HY4:=Lib.hid (HY.out.alloc (.cells (madeCells #[.int .i64 0] sn) 2))
  go_simp
  refine HK.out _ _ (fun _ hS=>⟨HY4.out.facts3.1.1,HY4.out.facts3.1.2.1⟩) ?_
  clear HK K hmk
  try simp only [Act.put,sx]
  refine anyD_one (i:=3) rfl rfl (by kernel_rfl) (fun K HK=>?_)
  go_simp
  have hmk:=HMU.out (w3.alloc (.cells (madeCells #[.int .i64 0] sn) 2))
  have HY5:=Lib.hid (HY4.out.alloc (.cells (madeCells #[.int .u32 0] C.sts.length) 26))
  go_simp
  refine HK.out _ _ (fun _ hS=>⟨HY5.out.facts3.1.1,HY5.out.facts3.1.2.1⟩) ?_
  clear HK K hmk
  try simp only [Act.put,sx]
  refine anyD_t 7 (.agg #[.int .u32 0,.slice (some ⟨(w3.heap.size+1),0,none⟩) C.sts.length C.sts.length,.slice (some ⟨w3.heap.size,0,none⟩) sn sn,.slice none 0 0,.int .i64 1]) ?_
  try simp only [Act.put,sx]
  have HX4:=Lib.hid ((HX3.out.alloc (.cells (madeCells #[.int .i64 0] sn) 2)).alloc (.cells (madeCells #[.int .u32 0] C.sts.length) 26))
  have HB4:=Lib.hid ((HB3.out.alloc h3s (.cells (madeCells #[.int .i64 0] sn) 2)).alloc (by simp; omega) (.cells (madeCells #[.int .u32 0] C.sts.length) 26))
  have HU4:=Lib.hid (Blk.new_at (w3.alloc (.cells (madeCells #[.int .i64 0] sn) 2)) 26 (madeCells #[.int .u32 0] C.sts.length) (w3.heap.size+1) (by simp))
  have HW4:=Lib.hid (((Blk.new w3 2 (madeCells #[.int .i64 0] sn)).alloc (.cells (madeCells #[.int .u32 0] C.sts.length) 26)))
  generalize (w3.alloc (.cells (madeCells #[.int .i64 0] sn) 2)).alloc (.cells (madeCells #[.int .u32 0] C.sts.length) 26)=w4 at *
  obtain ⟨⟨p0,p1,p2,p3,p4⟩,q0,q1,q2,q3,q4⟩:=blk5_facts HX4.out
  refine anyD_one (i:=8) rfl rfl (by kernel_rfl) (fun K HK=>?_)
  go_simp
  go_simp
  refine HK.out _ _ (fun h=>absurd h (by decide)) ?_
  clear HK K
  try simp only [Act.put,sx]
  refine anyD_done (by kernel_rfl) ?_
  go_wp2_with fail
  have hb5:=(((((HB4.out.setCell (p:=⟨w.heap.size,0,none⟩) (Nat.le_refl _) (.int .u32 0)).setCell (p:=⟨w.heap.size,1,none⟩) (Nat.le_refl _) (.slice (some ⟨(w3.heap.size+1),0,none⟩) C.sts.length C.sts.length)).setCell (p:=⟨w.heap.size,2,none⟩) (Nat.le_refl _) (.slice (some ⟨w3.heap.size,0,none⟩) sn sn)).setCell (p:=⟨w.heap.size,3,none⟩) (Nat.le_refl _) (.slice none 0 0)).setCell (p:=⟨w.heap.size,4,none⟩) (Nat.le_refl _) (.int .i64 1))
  have hu5:=((((HU4.out.set_ne (g':=w.heap.size) (by omega) 0 (.int .u32 0)).set_ne (g':=w.heap.size) (by omega) 1 (.slice (some ⟨(w3.heap.size+1),0,none⟩) C.sts.length C.sts.length)).set_ne (g':=w.heap.size) (by omega) 2 (.slice (some ⟨w3.heap.size,0,none⟩) sn sn)).set_ne (g':=w.heap.size) (by omega) 3 (.slice none 0 0)).set_ne (g':=w.heap.size) (by omega) 4 (.int .i64 1)
  have hw5:=((((HW4.out.set_ne (g':=w.heap.size) (by omega) 0 (.int .u32 0)).set_ne (g':=w.heap.size) (by omega) 1 (.slice (some ⟨(w3.heap.size+1),0,none⟩) C.sts.length C.sts.length)).set_ne (g':=w.heap.size) (by omega) 2 (.slice (some ⟨w3.heap.size,0,none⟩) sn sn)).set_ne (g':=w.heap.size) (by omega) 3 (.slice none 0 0)).set_ne (g':=w.heap.size) (by omega) 4 (.int .i64 1)
  refine bodyPost_ret (results_own rfl _ _ _ rfl (load_run (((((HX4.out.set_ 0 _).set_ 1 _).set_ 2 _).set_ 3 _).set_ 4 _))) rfl ?_
  exact HEND.out _ _ (w3.heap.size+1) w3.heap.size hb5 (by omega) (by omega) hu5 hw5 rfl
def RunOw (B:Nat) (w:World) (n:Nat) (v vo:Value) (X:Se):Prop:=∃ vh ve vi,v=.agg #[.int .u32 ((bset X.a n:Nat):Int),vh,ve,vi,.int .i64 X.st]∧RwAt B w vh ve vi vo X
theorem RwAt.lower {B B':Nat} {w:World} {vh ve vi vo:Value} {X:Se} (h:RwAt B w vh ve vi vo X) (hB:B'≤B):RwAt B' w vh ve vi vo X:=⟨h.hist.lower hB,RowAt.lower h.env hB,own_base h.ins hB,own_base h.out hB⟩
theorem RunOw.run {B:Nat} {w:World} {n:Nat} {v vo:Value} {X:Se} (h:RunOw B w n v vo X):RunAt w n v X:=by
 obtain ⟨vh,ve,vi,h0,h1⟩:=h
 exact ⟨vh,ve,vi,h0,h1.hist.hist,OwnEnv.nums h1.env,(OwnInts.of_own h1.ins (Nat.le_refl _)).list⟩
theorem RunOw.outs {B:Nat} {w:World} {n:Nat} {v vo:Value} {X:Se} (h:RunOw B w n v vo X):OutsAt w vo X.out:=by
 obtain ⟨vh,ve,vi,h0,h1⟩:=h
 exact OwnOuts.outs h1.out
def FPost (C:Ch) (w:World) (e:Ending) (w':World):Prop:=Below w.heap.size w w'∧∃ v vo,e=.returned (.tuple #[v,vo])∧RunOw w.heap.size w' C.sts.length v vo (fstS C)
theorem beg_pad (C:Ch):(⟨(beg C).a,padH C.sts.length (beg C).hist,(beg C).env,(beg C).ins,(beg C).st,[]⟩:Se)=beg C:=by
 unfold beg
 simp only
 rw [pad_full]
set_option maxHeartbeats 8000000 in
set_option maxRecDepth 100000 in
theorem mfirst_any (t:Nat) (C:Ch) (w:World) (hL:Laid w) (hT:TreeAt w t C) (hk:chk hasTB C=.ok) (hFw:fewB C=true) :
 Calls Tryz.prog 23 #[.pointer (some ⟨t,0,none⟩)] w (FPost C w):=by
 have hta:=tame_of hk
 have hcl:=hta.len
 have hpos:=hta.pos
 have hv:=vars_of hk
 have hb0:=below_box w (.cells #[.int .u32 0,.slice none 0 0,.slice none 0 0,.slice none 0 0,.int .i64 0] 31)
 have HB0:=Lib.hid hb0
 have HBX:=Lib.hid (Blk.new w 31 #[.int .u32 0,.slice none 0 0,.slice none 0 0,.slice none 0 0,.int .i64 0])
 have HBG:=Lib.hid (begin_any t C _ (hT.below hb0) hk hFw)
 have hnt:=fun W=>nilT_no t W
 have HL:=Lib.hid hL
 have HT:=Lib.hid hT
 have HV:=Lib.hid (beg_lim hv)
 have HSF:=Lib.hid (fun (W:World) (vh ve vi:Value) (h:Below w.heap.size w W) (h1:HistAt W vh (beg C).hist) (h2:NumsAt W ve (beg C).env) (h3:ListAt W vi (beg C).ins)=>stepFrom_any t C W (hL.after h) (hT.below h) hk hFw (beg C).a vh ve vi (beg C).hist (beg C).env (beg C).ins (beg C).st h1 (by show (List.replicate _ _).length≤_; rw [List.length_replicate]; omega) h2 (beg_lim hv).env h3 (by show ([]:List Int).length≤_; simp))
 rw [beg_pad] at HSF
 have HFS:Hid (fstS C=entU C.sts (fun k=>(pSet C.sts (enS C.sts ((0:Nat):Int) (beg C)).hist 0 (stAt C.sts ((0:Nat):Int)).ini).a k && !(enS C.sts ((0:Nat):Int) (beg C)).a k) C.sts.length (enS C.sts ((0:Nat):Int) (beg C))):=Lib.hid rfl
 have HHL:Hid ((enS C.sts ((0:Nat):Int) (beg C)).hist.length≤1000):=Lib.hid (by rw [enS_hist]; show (List.replicate _ _).length≤_; rw [List.length_replicate]; omega)
 have HIF:Hid ((stAt C.sts ((0:Nat):Int)).ini.length≤1000):=Lib.hid (by
  have:=(few_parts hFw).2.2.1 0 hpos
  unfold fewStB at this
  simp only [Bool.and_eq_true,decide_eq_true_eq] at this
  have:=this.2
  show (C.sts.getD (((0:Nat):Int)).toNat noSt).ini.length≤1000
  exact Nat.le_trans this (by omega))
 clear hL hT hk hFw hb0 hta hv
 go_enter Tryz.func23,Tryz.ntmps23
 go_wp2_with fail
 refine HBG.out.mono ?_
 rintro e w2 ⟨hb2,v,rfl,hr2⟩
 obtain ⟨vh,ve,vi,rfl,h1,h2,h3⟩:=hr2
 have HB2:=Lib.hid (HB0.out.trans (hb2.mono HB0.out.size))
 have HX2:=Lib.hid (HBX.out.below hb2 HBX.out.lt)
 have HSF2:=Lib.hid (HSF.out w2 vh ve vi HB2.out h1 h2 h3)
 clear hb2 h1 h2 h3 HBG HSF HB0 HBX
 go_wp2_with fail
 refine HSF2.out.mono ?_
 rintro e w3 ⟨w0,g,vs,vt,vh3,ve3,vi3,rfl,hb3,hF,hS3⟩
 have HW0:Hid (w.heap.size≤w0.heap.size):=Lib.hid (Nat.le_trans HB2.out.size hb3.size)
 have HF:=Lib.hid hF
 have HB3:=Lib.hid (HB2.out.trans (hb3.mono HB2.out.size))
 have HX3:=Lib.hid (HX2.out.below hb3 HX2.out.lt)
 have HEN:=Lib.hid (enterOne_any hF hS3 HV.out (by omega) 0 hpos)
 clear hb3 hF hS3 HSF2
 go_wp2_with fail
 refine HEN.out.mono ?_
 rintro e w4 ⟨rfl,vh4,ve4,vi4,vo4,hs4⟩
 have HLX:=Lib.hid (enS_lim (fun s=>(HF.out.acts s).1.1) ((0:Nat):Int) HV.out)
 obtain ⟨X1,hX1⟩:∃ X1,enS C.sts ((0:Nat):Int) (beg C)=X1:=⟨_,rfl⟩
 rw [hX1] at hs4 HFS HHL HLX
 have HS4:=Lib.hid hs4
 obtain ⟨b,o,cap',ui,ue,ux,hsl,hoc,hbl,hstt,hhas⟩:=HF.out.has.st hpos
 subst hsl
 obtain ⟨-,-,c2,-,-⟩:=hstt.below hs4.below hbl
 have c2':w4.cell? ⟨b,o+2,none⟩=some ui:=by simpa using c2
 have HLI:=Lib.hid (hhas.1.below hs4.below)
 obtain ⟨iA,icap,rfl,hic⟩:=RowsAt.slice hhas.1
 obtain ⟨⟨x0,x1,x2,x3,x4⟩,x5,x6,x7,x8,x9⟩:=hs4.cells
 have HBE:=Lib.hid (below_anyM HF.out HS4.out HHL.out 0 _ _ HLI.out HIF.out)
 clear hs4 HEN c2 hstt hhas hic hX1
 generalize (stAt C.sts ((0:Nat):Int)).ini=IL at *
 go_wp2_with fail
 refine HBE.out.mono ?_
 rintro e w5 ⟨rfl,hb5⟩
 have HS5:=Lib.hid (HS4.out.after hb5)
 have HEA:=Lib.hid (enterAll_any HF.out HS5.out HLX.out (by omega) (pSet C.sts X1.hist 0 IL).a)
 clear hb5 HBE x0 x1 x2 x3 x4 x5 x6 x7 x8 x9 c2'
 go_wp2_with fail
 refine HEA.out.mono ?_
 rintro e w6 ⟨rfl,vh6,ve6,vi6,vo6,hs6⟩
 rw [← HFS.out] at hs6
 obtain ⟨hA6,hcap6,rfl⟩:=hs6.rows.hist.slice
 obtain ⟨eA6,ecap6,rfl⟩:=hs6.rows.env.slice
 obtain ⟨iA6,icap6,rfl⟩:=own_slice hs6.rows.ins
 obtain ⟨oA6,ocap6,rfl⟩:=own_slice hs6.rows.out
 have HS6:=Lib.hid hs6.drew
 have HX6:=Lib.hid ((HX3.out.below hs6.below HX3.out.lt).drew)
 have HB6:=Lib.hid ((HB3.out.trans (hs6.below.mono HB3.out.size)).drew)
 clear hs6 HEA HFS
 obtain ⟨Y,hY⟩:∃ Y,fstS C=Y:=⟨_,rfl⟩
 rw [hY] at HS6
 have HYY:=Lib.hid hY
 clear hY
 go_wp2_with fail
 obtain ⟨⟨-,-,-,-,x4⟩,x5,x6,x7,x8,x9⟩:=HS6.out.cells
 obtain ⟨⟨p0,p1,p2,p3,p4⟩,q0,q1,q2,q3,q4⟩:=blk5_facts HX6.out
 refine anyD_start (fun W=>(W.cell? ⟨g,4,none⟩=some (.int .u32 ((bset Y.a C.sts.length:Nat):Int))∧W.cell? ⟨g,5,none⟩=some (.slice hA6 Y.hist.length hcap6)∧W.cell? ⟨g,6,none⟩=some (.slice eA6 Y.env.length ecap6)∧W.cell? ⟨g,7,none⟩=some (.slice iA6 Y.ins.length icap6)∧W.cell? ⟨g,8,none⟩=some (.int .i64 Y.st))∧W.cell? ⟨g,9,none⟩=some (.slice oA6 Y.out.length ocap6)) (fun i=>[].contains i) (by kernel_rfl) ?_
 try simp only [Act.put,sx]
 generalize w6.drew=w7 at *
 refine anyD_t 0 (.pointer (some ⟨g,0,none⟩)) ?_
 try simp only [Act.put,sx]
 refine anyD_t 1 (.pointer (some ⟨g,0,none⟩)) ?_
 try simp only [Act.put,sx]
 refine anyD_t 2 (.pointer (some ⟨g,4,none⟩)) ?_
 try simp only [Act.put,sx]
 refine anyD_l 3 (.agg #[.int .u32 ((bset Y.a C.sts.length:Nat):Int),.slice hA6 Y.hist.length hcap6,.slice eA6 Y.env.length ecap6,.slice iA6 Y.ins.length icap6,.int .i64 Y.st]) (⟨⟨x4,x5,x6,x7,x8⟩,x9⟩) ?_
 try simp only [Act.put,sx]
 refine anyD_t 4 (.pointer (some ⟨g,0,none⟩)) ?_
 try simp only [Act.put,sx]
 refine anyD_t 5 (.pointer (some ⟨g,0,none⟩)) ?_
 try simp only [Act.put,sx]
 refine anyD_t 6 (.pointer (some ⟨g,9,none⟩)) ?_
 try simp only [Act.put,sx]
 refine anyD_l 7 (.slice oA6 Y.out.length ocap6) (⟨⟨x4,x5,x6,x7,x8⟩,x9⟩) ?_
 try simp only [Act.put,sx]
 have hgne:g ≠ w.heap.size:=by have:=HS6.out.ge; have:=HX3.out.lt; omega
 have hg7:=((((HS6.out.blk.set_ne hgne 0 (.int .u32 ((bset Y.a C.sts.length:Nat):Int))).set_ne hgne 1 (.slice hA6 Y.hist.length hcap6)).set_ne hgne 2 (.slice eA6 Y.env.length ecap6)).set_ne hgne 3 (.slice iA6 Y.ins.length icap6)).set_ne hgne 4 (.int .i64 Y.st)
 have HG7:=Lib.hid hg7
 clear hg7
 refine anyD_one (i:=8) rfl rfl (by kernel_rfl) (fun K HK=>?_)
 go_simp
 go_simp
 refine HK.out _ _ (fun _ hS=>⟨⟨HG7.out.cell 4,HG7.out.cell 5,HG7.out.cell 6,HG7.out.cell 7,HG7.out.cell 8⟩,HG7.out.cell 9⟩) ?_
 clear HK K
 try simp only [Act.put,sx]
 refine anyD_one (i:=9) rfl rfl (by kernel_rfl) (fun K HK=>?_)
 go_simp
 refine HK.out _ _ (fun _ hS=>hS) ?_
 clear HK K
 try simp only [Act.put,sx]
 refine anyD_done (by kernel_rfl) ?_
 go_wp2_with fail
 have r1:=HS6.out.rows.apart HX6.out (by decide) (by decide) (by decide) (by decide) 0 (.int .u32 ((bset Y.a C.sts.length:Nat):Int))
 have k1:=HX6.out.set_ 0 (.int .u32 ((bset Y.a C.sts.length:Nat):Int))
 have r2:=r1.apart k1 (by decide) (by decide) (by decide) (by decide) 1 (.slice hA6 Y.hist.length hcap6)
 have k2:=k1.set_ 1 (.slice hA6 Y.hist.length hcap6)
 have r3:=r2.apart k2 (by decide) (by decide) (by decide) (by decide) 2 (.slice eA6 Y.env.length ecap6)
 have k3:=k2.set_ 2 (.slice eA6 Y.env.length ecap6)
 have r4:=r3.apart k3 (by decide) (by decide) (by decide) (by decide) 3 (.slice iA6 Y.ins.length icap6)
 have k4:=k3.set_ 3 (.slice iA6 Y.ins.length icap6)
 have r5:=r4.apart k4 (by decide) (by decide) (by decide) (by decide) 4 (.int .i64 Y.st)
 have k5:=k4.set_ 4 (.int .i64 Y.st)
 have hb7:=(((((HB6.out.setCell (p:=⟨w.heap.size,0,none⟩) (Nat.le_refl _) (.int .u32 ((bset Y.a C.sts.length:Nat):Int))).setCell (p:=⟨w.heap.size,1,none⟩) (Nat.le_refl _) (.slice hA6 Y.hist.length hcap6)).setCell (p:=⟨w.heap.size,2,none⟩) (Nat.le_refl _) (.slice eA6 Y.env.length ecap6)).setCell (p:=⟨w.heap.size,3,none⟩) (Nat.le_refl _) (.slice iA6 Y.ins.length icap6)).setCell (p:=⟨w.heap.size,4,none⟩) (Nat.le_refl _) (.int .i64 Y.st))
 refine bodyPost_ret (results_two rfl _ _ _ rfl (load_run k5)) rfl ?_
 have hY:=HYY.out
 subst hY
 exact ⟨hb7,_,_,rfl,_,_,_,rfl,r5.lower HW0.out⟩

def cfN (C:Ch) (X:Se):Nat:=bset X.a C.sts.length
def rndL (C:Ch) (ev:Int) (X:Se):List Int:=numsC (siL C (leftN C (cfN C X)) (gaL C X.env ev (cfN C X)).1)
def rndM (C:Ch) (ev:Int) (X:Se):Nat:=(gaL C X.env ev (cfN C X)).2
def Se.addE (X:Se) (k:Nat):Se:=⟨X.a,X.hist,X.env,X.ins ++ List.replicate k 1001,X.st,X.out⟩
def Se.dropI (X:Se):Se:=⟨X.a,X.hist,X.env,X.ins.tail,X.st,X.out⟩
def Se.hush (X:Se):Se:=⟨X.a,X.hist,X.env,X.ins,X.st,[]⟩
def stpO (C:Ch) (l:List Int) (X:Se):Se :=
 let Y:=stpS C l ⟨bitN (cfN C X),padH C.sts.length X.hist,X.env,X.ins,X.st,[]⟩
 ⟨Y.a,Y.hist,Y.env,Y.ins,Y.st,X.out ++ Y.out⟩
def capI (X:Se):Se:=if 50 < X.ins.length then X.putSt 3 else X
def stepL (C:Ch) (l:List Int) (X:Se):Se:=if l=[] then X else stpO C l X
def rndS (C:Ch) (ev:Int) (X:Se):Se:=capI (stepL C (rndL C ev X) (X.addE (rndM C ev X)))
def rndF (C:Ch) (ev:Int) (X:Se) (f:Nat):Bool × Se × Nat :=
 if f=0 then (false,X.putSt 3,0) else (decide (rndL C ev X ≠ []),rndS C ev X,f - 1)
def stlF (C:Ch):Nat→Se→Nat→Se
 | 0,X,f=>X
 | k+1,X,f=>if X.st ≠ 1 then X else
  let q:=rndF C 0 X f
  if q.1=true ∨ q.2.1.st ≠ 1 then stlF C k q.2.1 q.2.2
  else if q.2.1.ins=[] then q.2.1
  else let r:=rndF C (q.2.1.ins.headD 0) q.2.1.dropI q.2.2; stlF C k r.2.1 r.2.2
def startS (C:Ch):Se:=stlF C 42 (fstS C) 40
def takeS (C:Ch) (ev:Int) (X:Se):Se:=if X.st=1 then stlF C 42 (rndS C ev X) 39 else X
theorem doS_env (l:List Ac) (X:Se):(doS l X).env.length=X.env.length:=doL_env l ⟨X.env,[],[]⟩
theorem finS_env (S:List St) (k:Int) (X:Se):(finS S k X).env=X.env:=by
 unfold finS
 split
 · rfl
 · split <;> rfl
theorem enS_env (S:List St) (k:Int) (X:Se):(enS S k X).env.length=X.env.length:=by
 unfold enS
 split
 · rw [finS_env,doS_env]; rfl
 · rw [doS_env]; rfl
theorem entU_env (S:List St) (P:Nat→Bool) (X:Se):∀ n:Nat,(entU S P n X).env.length=X.env.length
 | 0=>rfl
 | n+1=>by
  rw [entU]
  split
  · rw [enS_env,entU_env S P X n]
  · exact entU_env S P X n
theorem offU_env (S:List St) (Q:Nat→Bool) (X:Se):∀ d:Nat,(offU S Q d X).env.length=X.env.length
 | 0=>rfl
 | d+1=>by
  rw [offU]
  split
  · show (doS _ _).env.length=_
    rw [doS_env,offU_env S Q X d]
  · exact offU_env S Q X d
theorem acU_env (R:List Tr) (l:List Int) (X:Se):∀ m:Nat,(acU R l m X).env.length=X.env.length
 | 0=>rfl
 | m+1=>by rw [acU,doS_env,acU_env R l X m]
theorem stpS_env (C:Ch) (l:List Int) (X:Se):(stpS C l X).env.length=X.env.length:=by
 unfold stpS
 simp only
 rw [entU_env,acU_env]
 unfold lvS
 rw [offU_env]
 rfl
structure Few (C:Ch):Prop where
 ent:∀ s,(stAt C.sts s).ent.length≤40
 exi:∀ s,(stAt C.sts s).exi.length≤40
 acts:∀ i,(trAt C.trs i).acts.length≤40
theorem stpS_lim {C:Ch} (hF:Few C) (l:List Int) {n:Nat} {X:Se} (h:Lim n X):Lim (n+C.sts.length+l.length+3 * C.sts.length) (stpS C l X):=by
 unfold stpS
 simp only
 refine entU_lim hF.ent _ (acU_lim hF.acts ?_ _) _
 unfold lvS
 exact offU_lim hF.exi _ (putH_lim h _) _
theorem doS_ins (l:List Ac) (X:Se):(doS l X).ins.length≤X.ins.length+(l.length+1):=by
 have h:=doL_ins l ⟨X.env,[],[]⟩
 show (X.ins ++ (doL l ⟨X.env,[],[]⟩).ins).length≤_
 rw [List.length_append]
 simp only [List.length_nil] at h
 omega
theorem finS_ins (S:List St) (k:Int) (X:Se):(finS S k X).ins.length≤X.ins.length+2:=by
 unfold finS
 split
 · exact Nat.le_add_right _ _
 · split
   · show ((X.ins ++ [2000+k]) ++ [2000+(stAt S k).par]).length≤_
     simp
   · show (X.ins ++ [2000+k]).length≤_
     simp
theorem enS_ins {S:List St} (hA:∀ s,(stAt S s).ent.length≤40) (k:Int) (X:Se):(enS S k X).ins.length≤X.ins.length+43:=by
 have h1:=doS_ins (stAt S k).ent (X.putA (addS X.a k))
 have h2:=hA k
 have h3:(X.putA (addS X.a k)).ins=X.ins:=rfl
 rw [h3] at h1
 unfold enS
 split
 · have h4:=finS_ins S (stAt S k).par (doS (stAt S k).ent (X.putA (addS X.a k)))
   omega
 · omega
theorem entU_ins {S:List St} (hA:∀ s,(stAt S s).ent.length≤40) (P:Nat→Bool) (X:Se):∀ n:Nat,(entU S P n X).ins.length≤X.ins.length+43 * n
 | 0=>Nat.le_refl _
 | n+1=>by
  have ih:=entU_ins hA P X n
  rw [entU]
  split
  · have:=enS_ins hA (n:Int) (entU S P n X)
    omega
  · omega
theorem rndM_le {C:Ch} (hT:Tame C.sts) (hF:fewB C=true) (ev:Int) (X:Se):rndM C ev X≤36000:=by
 have h:∀ (l:List Int) (a:List Int × Nat),(l.foldl (gaStep C X.env ev) a).2≤a.2+1500 * l.length:=by
  intro l
  induction l with
  | nil=>intro a; simp
  | cons s r ih =>
   intro a
   rw [List.foldl_cons,List.length_cons]
   refine Nat.le_trans (ih _) ?_
   have:=missed_le X.env ev hT hF s
   unfold gaStep
   simp only
   omega
 have h1:=h (lvL C.sts (cfN C X)) ([],0)
 have h2:=lvU_len C.sts (cfN C X) C.sts.length
 have h3:=hT.len
 unfold rndM gaL
 unfold lvL at h1 ⊢
 simp only at h1
 omega
theorem gaL_cnt (C:Ch) (env:List Int) (ev:Int) (n:Nat):(gaL C env ev n).1.length≤C.sts.length:=by
 have h:∀ (l:List Int) (a:List Int × Nat),(l.foldl (gaStep C env ev) a).1.length≤a.1.length+l.length:=by
  intro l
  induction l with
  | nil=>intro a; simp
  | cons s r ih =>
   intro a
   rw [List.foldl_cons,List.length_cons]
   refine Nat.le_trans (ih _) ?_
   have:=putIn_len a.1 (frA env ev C.trs (wayL C.sts s) 0).1
   unfold gaStep
   simp only
   omega
 have h1:=h (lvL C.sts n) ([],0)
 have h2:=lvU_len C.sts n C.sts.length
 unfold gaL
 unfold lvL at h1 ⊢
 simp only [List.length_nil] at h1
 omega
theorem rndL_len (C:Ch) (ev:Int) (X:Se):(rndL C ev X).length≤C.sts.length:=by
 have h1:=si_len C (leftN C (cfN C X)) (gaL C X.env ev (cfN C X)).1 []
 have h2:=gaL_cnt C X.env ev (cfN C X)
 unfold rndL numsC siL
 rw [List.length_map]
 simp only [List.length_nil] at h1
 omega
theorem rndL_tr (C:Ch) (ev:Int) (X:Se):∀ i ∈ rndL C ev X,isTr C.trs i=true:=fun i hi=>by
 obtain ⟨x,hx,rfl⟩:=List.mem_map.1 hi
 exact ((siL_apt C (leftN C (cfN C X)) (gaL C X.env ev (cfN C X)).1).2 x hx).2.2
structure Okw (C:Ch) (X:Se):Prop where
 wb:WB C.sts (bitN (cfN C X)) 0
 snd:SoundP C.sts X.hist
 hl:X.hist.length=C.sts.length
 lt:∀ x ∈ X.hist,x < 4294967296
 el:X.env.length=C.vars.toNat
 fit:∀ x ∈ X.env,F64 x
 big:X.ins.length≤300000
 il:X.st=1→X.ins.length≤1100
theorem bset_self (P:Nat→Bool) (m:Nat):bset (bitN (bset P m)) m=bset P m:=bset_congr m fun k hk=>bset_has hk
theorem cfN_bit {C:Ch} {X:Se}:bset (bitN (cfN C X)) C.sts.length=cfN C X:=bset_self _ _
theorem wb_norm {S:List St} (hT:Tame S) {A:Nat→Bool} (h:WB S A 0):WB S (bitN (bset A S.length)) 0:=by
 refine WB.congr hT h fun y hy=>?_
 have hyS:isSt S y=true:=by
  rcases hy with rfl | hy
  · exact isSt_iff.2 ⟨by omega,by have:=hT.pos; omega⟩
  · exact (cIn_range hy).2.2
 obtain ⟨k,rfl,hk⟩:=isSt_nat hyS
 rw [has_natI,has_natI,bset_has hk]
theorem padH_id {n:Nat} {H:List Nat} (h:H.length=n):padH n H=H:=by
 unfold padH
 rw [h,Nat.sub_self,List.replicate_zero,List.append_nil]
theorem Okw.putSt {C:Ch} {X:Se} (h:Okw C X) {n:Int} (hn:n ≠ 1):Okw C (X.putSt n):=⟨h.wb,h.snd,h.hl,h.lt,h.el,h.fit,h.big,fun h1=>absurd h1 hn⟩
theorem Okw.dropI {C:Ch} {X:Se} (h:Okw C X):Okw C X.dropI:=⟨h.wb,h.snd,h.hl,h.lt,h.el,h.fit,by
 have:=h.big
 show X.ins.tail.length≤_
 rw [List.length_tail]
 omega,fun h1=>by
 have:=h.il h1
 show X.ins.tail.length≤_
 rw [List.length_tail]
 omega⟩
structure Chk (C:Ch):Prop where
 chk:chk hasTB C=.ok
 few:Few C
 fewB:fewB C=true
 vars:C.vars.toNat≤8
theorem few_of {C:Ch} (h:fewB C=true):Few C where
 ent s:=by
  unfold stAt
  rcases Nat.lt_or_ge s.toNat C.sts.length with hk | hk
  · have:=(few_parts h).2.2.1 s.toNat hk
    unfold fewStB at this
    simp only [Bool.and_eq_true,decide_eq_true_eq] at this
    exact (of_fewActs this.1.1).1
  · rw [List.getD_eq_getElem?_getD,List.getElem?_eq_none hk]
    decide
 exi s:=by
  unfold stAt
  rcases Nat.lt_or_ge s.toNat C.sts.length with hk | hk
  · have:=(few_parts h).2.2.1 s.toNat hk
    unfold fewStB at this
    simp only [Bool.and_eq_true,decide_eq_true_eq] at this
    exact (of_fewActs this.1.2).1
  · rw [List.getD_eq_getElem?_getD,List.getElem?_eq_none hk]
    decide
 acts s:=by
  unfold trAt
  rcases Nat.lt_or_ge s.toNat C.trs.length with hk | hk
  · have:=(few_parts h).2.2.2 s.toNat hk
    unfold fewTrB at this
    simp only [Bool.and_eq_true,decide_eq_true_eq] at this
    exact (of_fewActs this.1.1).1
  · rw [List.getD_eq_getElem?_getD,List.getElem?_eq_none hk]
    decide
theorem chk_mk {C:Ch} (h:Go.Proofs.YtgofpbdbeegoeaaGreatDoor.chk hasTB C=.ok) (hf:fewB C=true):Chk C:=⟨h,few_of hf,hf,by have:=vars_of h; omega⟩
theorem Okw.round {C:Ch} (hC:Chk C) {X:Se} (h:Okw C X) (h1:X.st=1) (ev:Int):Okw C (rndS C ev X):=by
 have hT:=tame_of hC.chk
 have hm:=rndM_le hT hC.fewB ev X
 have hi:=h.il h1
 have hZi:(X.addE (rndM C ev X)).ins.length≤37100:=by
  show (X.ins ++ List.replicate _ (1001:Int)).length≤_
  rw [List.length_append,List.length_replicate]
  omega
 unfold rndS
 obtain ⟨Z,hZ⟩:∃ Z,X.addE (rndM C ev X)=Z:=⟨_,rfl⟩
 have z1:Z.a=X.a:=by rw [← hZ]; rfl
 have z2:Z.hist=X.hist:=by rw [← hZ]; rfl
 have z3:Z.env=X.env:=by rw [← hZ]; rfl
 rw [hZ] at hZi ⊢
 have hcf:cfN C Z=cfN C X:=by unfold cfN; rw [z1]
 have key:WB C.sts (bitN (cfN C (stepL C (rndL C ev X) Z))) 0∧SoundP C.sts (stepL C (rndL C ev X) Z).hist∧(stepL C (rndL C ev X) Z).hist.length=C.sts.length∧(∀ x ∈ (stepL C (rndL C ev X) Z).hist,x < 4294967296)∧(stepL C (rndL C ev X) Z).env.length=C.vars.toNat∧(∀ x ∈ (stepL C (rndL C ev X) Z).env,F64 x)∧(stepL C (rndL C ev X) Z).ins.length≤300000:=by
  unfold stepL
  split
  · rw [hcf,z2,z3]
    exact ⟨h.wb,h.snd,h.hl,h.lt,h.el,h.fit,by omega⟩
  · have hw:=stp_whole hC.chk cfN_bit h.wb h.lt h.snd X.env ev (l:=rndL C ev X) rfl X.env Z.ins Z.st
    have hlm:=stpS_lim hC.few (rndL C ev X) (n:=0) (X:=⟨bitN (cfN C X),padH C.sts.length X.hist,X.env,Z.ins,Z.st,[]⟩) ⟨by show X.env.length≤1000; have:=h.el; have:=hC.vars; omega,h.fit,by simp,by show Z.ins.length≤_; omega⟩
    have hll:=rndL_len C ev X
    have hsl:=hT.len
    unfold stpO
    rw [hcf,z2,z3]
    refine ⟨wb_norm hT hw.1,hw.2,?_,?_,?_,hlm.fit,?_⟩
    · show (stpS C _ _).hist.length=_
      rw [stpS_hist,recU_len,padH_id h.hl,h.hl]
    · show ∀ x ∈ (stpS C _ _).hist,_
      rw [stpS_hist]
      refine recU_lt (by omega) _ _ _ _ ?_
      show ∀ x ∈ padH C.sts.length X.hist,x < 4294967296
      rw [padH_id h.hl]
      exact h.lt
    · show (stpS C _ _).env.length=_
      rw [stpS_env]
      exact h.el
    · have:=hlm.ins
      show (stpS C _ _).ins.length≤_
      omega
 obtain ⟨k1,k2,k3,k4,k5,k6,k7⟩:=key
 unfold capI
 split
 · exact ⟨k1,k2,k3,k4,k5,k6,k7,fun h3=>absurd h3 (by show (3:Int) ≠ 1; decide)⟩
 · exact ⟨k1,k2,k3,k4,k5,k6,k7,fun _=>by omega⟩
theorem Okw.roundF {C:Ch} (hC:Chk C) {X:Se} (h:Okw C X) (h1:X.st=1) (ev:Int) (f:Nat):Okw C (rndF C ev X f).2.1:=by
 unfold rndF
 split
 · exact h.putSt (by decide)
 · exact h.round hC h1 ev
theorem Okw.settle {C:Ch} (hC:Chk C):∀ (k:Nat) (X:Se) (f:Nat),Okw C X→Okw C (stlF C k X f)
 | 0,X,f,h=>h
 | k+1,X,f,h=>by
  rw [stlF]
  split
  · exact h
  · rename_i h1
    have h1:X.st=1:=Decidable.not_not.1 h1
    have hq:=h.roundF hC h1 0 f
    simp only
    split
    · exact Okw.settle hC k _ _ hq
    · rename_i h2
      have h2:(rndF C 0 X f).2.1.st=1:=Decidable.not_not.1 fun hh=>h2 (.inr hh)
      split
      · exact hq
      · exact Okw.settle hC k _ _ (hq.dropI.roundF hC h2 _ _)
theorem capI_st {X:Se} (h:(capI X).st=1):capI X=X:=by
 unfold capI at h ⊢
 split
 · rename_i h2
   rw [if_pos h2] at h
   exact absurd h (by show (3:Int) ≠ 1; decide)
 · rfl
structure Still (C:Ch) (X:Se):Prop where
 ins:X.ins=[]
 none:rndL C 0 X=[]
 well:rndM C 0 X=0
theorem settle_still {C:Ch}:∀ (k:Nat) (X:Se) (f:Nat),(X.st=1→f+2≤k)→1≤k→(stlF C k X f).st=1→Still C (stlF C k X f)
 | 0,X,f,_,h0,_=>absurd h0 (by decide)
 | k+1,X,f,hk,_,h=>by
  rw [stlF] at h ⊢
  by_cases h1:X.st=1
  · rw [if_neg (fun hh=>hh h1)] at h ⊢
    simp only at h ⊢
    have hk:=hk h1
    by_cases h2:(rndF C 0 X f).1=true ∨ (rndF C 0 X f).2.1.st ≠ 1
    · rw [if_pos h2] at h ⊢
      refine settle_still k _ _ (fun h3=>?_) (by omega) h
      unfold rndF at h3 ⊢
      split
      · rename_i hf
        rw [if_pos hf] at h3
        exact absurd h3 (by show (3:Int) ≠ 1; decide)
      · show f - 1+2≤k
        omega
    · rw [if_neg h2] at h ⊢
      have h3:(rndF C 0 X f).1=false:=by
       cases hb:(rndF C 0 X f).1 with
       | false=>rfl
       | true=>exact absurd (.inl hb) h2
      have h4:(rndF C 0 X f).2.1.st=1:=Decidable.not_not.1 fun hh=>h2 (.inr hh)
      have hf:f ≠ 0:=fun hf=>by
       unfold rndF at h4
       rw [if_pos hf] at h4
       exact absurd h4 (by show (3:Int) ≠ 1; decide)
      have hF:rndF C 0 X f=(decide (rndL C 0 X ≠ []),rndS C 0 X,f - 1):=by unfold rndF; rw [if_neg hf]
      rw [hF] at h h3 h4 ⊢
      simp only at h h3 h4 ⊢
      have hn:rndL C 0 X=[]:=by simpa using h3
      have hS:rndS C 0 X=X.addE (rndM C 0 X):=by
       unfold rndS at h4 ⊢
       rw [capI_st h4,hn]
       unfold stepL
       rw [if_pos rfl]
      by_cases h5:(rndS C 0 X).ins=[]
      · rw [if_pos h5]
        rw [hS] at h5 ⊢
        have h6:X.ins ++ List.replicate (rndM C 0 X) 1001=[]:=h5
        obtain ⟨h7,h8⟩:=List.append_eq_nil_iff.1 h6
        have h9:rndM C 0 X=0:=by
         have:=congrArg List.length h8
         simpa using this
        exact ⟨h5,hn,h9⟩
      · rw [if_neg h5] at h ⊢
        refine settle_still k _ _ (fun h6=>?_) (by omega) h
        unfold rndF at h6 ⊢
        split
        · rename_i hf2
          rw [if_pos hf2] at h6
          exact absurd h6 (by show (3:Int) ≠ 1; decide)
        · show f - 1 - 1+2≤k
          omega
  · rw [if_pos h1] at h
    exact absurd h h1
theorem set_one12 {S:List St} (hT:Tame S) (H:List Nat) (hg:∀ s,s < H.length→GoodAt S H s):∃ t0,(stAt S 0).ini=[t0]∧WB S (addS (pSet S H 0 [t0]).a 0) 0:=by
 have h0:isSt S 0=true:=isSt_iff.2 ⟨by omega,by have:=hT.pos; omega⟩
 obtain ⟨t0,hi0,ht1,ht2,ht3⟩:=hT.ini2 0 h0 hT.first
 obtain ⟨h1,h2,h3⟩:=whole_one hT H t0 ht1 ht2 (by have:=cIn_range ht3; omega)
 refine ⟨t0,hi0,?_⟩
 rw [set_same hT (good_std hT hg).1]
 exact h1
theorem fst_hist (C:Ch):(fstS C).hist=List.replicate C.sts.length 0:=by
 unfold fstS
 simp only
 rw [entU_hist,enS_hist]
 rfl
theorem fst_ok {C:Ch} (hC:Chk C):Okw C (fstS C):=by
 have hT:=tame_of hC.chk
 have hX1:(enS C.sts 0 (beg C)).hist=List.replicate C.sts.length 0:=by rw [enS_hist]; rfl
 obtain ⟨t0,hi0,hW⟩:=set_one12 hT (List.replicate C.sts.length 0) (good_zero C.sts C.sts.length)
 have hlm:Lim 3 (enS C.sts 0 (beg C)):=enS_lim hC.few.ent 0 (beg_lim (vars_of hC.chk))
 have hlm2:Lim (3+3 * C.sts.length) (fstS C):=entU_lim hC.few.ent _ hlm _
 have hin:(fstS C).ins.length≤1100:=by
  have h1:=enS_ins hC.few.ent 0 (beg C)
  have h2:=entU_ins hC.few.ent (fun k=>(pSet C.sts (enS C.sts 0 (beg C)).hist 0 (stAt C.sts 0).ini).a k && !(enS C.sts 0 (beg C)).a k) (enS C.sts 0 (beg C)) C.sts.length
  have h3:=hT.len
  have h4:(beg C).ins.length=0:=rfl
  show (entU C.sts _ C.sts.length (enS C.sts 0 (beg C))).ins.length≤_
  omega
 refine ⟨?_,?_,?_,?_,?_,hlm2.fit,by omega,fun _=>hin⟩
 · unfold cfN
   refine WB.congr hT (wb_norm hT hW) fun y hy=>?_
   have hyS:isSt C.sts y=true:=by
    rcases hy with rfl | hy
    · exact isSt_iff.2 ⟨by omega,by have:=hT.pos; omega⟩
    · exact (cIn_range hy).2.2
   obtain ⟨k,rfl,hk⟩:=isSt_nat hyS
   rw [has_natI,has_natI,bset_has hk,bset_has hk]
   unfold fstS
   simp only
   rw [entU_a,hX1,hi0,enS_a,decide_eq_true hk]
   unfold addS
   show (((false || decide ((k:Int)=0)) || _):Bool)=_
   cases (pSet C.sts (List.replicate C.sts.length 0) 0 [t0]).a k <;> cases decide ((k:Int)=0) <;> rfl
 · rw [fst_hist]
   exact sound_of_snd hT (fun s h0=>absurd (hist_zero _ _) h0) fun s hs hh h0=>absurd (hist_zero _ _) h0
 · rw [fst_hist,List.length_replicate]
 · rw [fst_hist]
   intro x hx
   rw [List.eq_of_mem_replicate hx]
   decide
 · unfold fstS
   simp only
   rw [entU_env,enS_env]
   exact List.length_replicate
theorem start_ok {C:Ch} (hC:Chk C):Okw C (startS C)∧((startS C).st=1→Still C (startS C)) :=
 ⟨(fst_ok hC).settle hC _ _ _,settle_still _ _ _ (fun _=>by decide) (by decide)⟩
theorem take_ok {C:Ch} (hC:Chk C) (ev:Int) {X:Se} (h:Okw C X) (hs:X.st=1→Still C X):Okw C (takeS C ev X)∧((takeS C ev X).st=1→Still C (takeS C ev X)):=by
 unfold takeS
 split
 · rename_i h1
   exact ⟨(h.round hC h1 ev).settle hC _ _ _,settle_still _ _ _ (fun _=>by decide) (by decide)⟩
 · exact ⟨h,hs⟩
theorem frS_else {env:List Int} {ev:Int} (s:Int):∀ (r:List Tr) (k n:Nat),(∀ t ∈ r,t.ev ≠ ev)→frS env ev s r k n=(-1,n)
 | [],k,n,_=>rfl
 | t :: r,k,n,h=>by
  have ih:=frS_else (env:=env) s r (k+1) n fun x hx=>h x (List.mem_cons_of_mem _ hx)
  have hr:rdyV env ev t=(false,false):=by unfold rdyV; rw [if_neg (h t List.mem_cons_self)]
  unfold frS
  rw [hr]
  simpa using ih
theorem frA_else {env:List Int} {ev:Int} {R:List Tr} (h:∀ t ∈ R,t.ev ≠ ev):∀ (l:List Int) (n:Nat),frA env ev R l n=(-1,n)
 | [],n=>rfl
 | s :: l,n=>by
  have ih:=frA_else (env:=env) h l n
  unfold frA
  rw [frS_else s R 0 n h]
  simpa using ih
theorem gaL_else {C:Ch} {env:List Int} {ev:Int} (h:∀ t ∈ C.trs,t.ev ≠ ev) (n:Nat):gaL C env ev n=([],0):=by
 have:∀ (l:List Int),l.foldl (gaStep C env ev) ([],0)=([],0):=by
  intro l
  induction l with
  | nil=>rfl
  | cons s r ih =>
   rw [List.foldl_cons]
   have hs:gaStep C env ev ([],0) s=([],0):=by
    unfold gaStep
    rw [frA_else h]
    rfl
   rw [hs,ih]
 exact this _
theorem take_idle {C:Ch} {ev:Int} (h:∀ t ∈ C.trs,t.ev ≠ ev) {X:Se} (hs:X.st=1→Still C X):takeS C ev X=X:=by
 unfold takeS
 split
 · rename_i h1
   have hs:=hs h1
   have hl:rndL C ev X=[]:=by unfold rndL; rw [gaL_else h]; rfl
   have hm:rndM C ev X=0:=by unfold rndM; rw [gaL_else h]
   have hadd:X.addE 0=X:=by
    show (⟨X.a,X.hist,X.env,X.ins ++ [],X.st,X.out⟩:Se)=X
    rw [List.append_nil]
   have hr:∀ e,rndL C e X=[]→rndM C e X=0→rndS C e X=X:=fun e h3 h4=>by
    unfold rndS stepL
    rw [h3,h4,if_pos rfl,hadd]
    unfold capI
    rw [if_neg (by rw [hs.ins]; decide)]
   rw [hr ev hl hm]
   have hF:rndF C 0 X 39=(false,X,38):=by
    unfold rndF
    rw [if_neg (by decide),hs.none,hr 0 hs.none hs.well]
    rfl
   rw [stlF,if_neg (fun hh=>hh h1)]
   simp only [hF]
   rw [if_neg (by rintro (hh | hh); · cases hh
                  · exact hh h1),if_pos hs.ins]
 · rfl
end Go.Proofs.YtgofpbdbeegoeaaGreatDoor
