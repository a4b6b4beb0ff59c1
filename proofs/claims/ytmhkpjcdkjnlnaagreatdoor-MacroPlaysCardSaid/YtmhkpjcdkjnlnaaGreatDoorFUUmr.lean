/- The contracts of macro's copyOf, copyOfRun, step, round, settle, Start, Take. -/
import Derived.Test.YtmhkpjcdkjnlnaaGreatDoorFUIsp
namespace Go.Proofs.YtmhkpjcdkjnlnaaGreatDoor
open Go.ChangeShapes Go.WideShapes Go.ChangeAt Go.RowKit
set_option linter.unusedVariables false
set_option maxHeartbeats 1000000 in
theorem copyM_uint32 (v:Value) (len:Nat) (news:List Value) (w:World) (h:RowIs w 1 v len news) (hl:len≤1000000):Calls Tryz.prog 75 #[v] w (CopyPost 33 1 len news w):=by
 obtain ⟨hn,⟨c,rfl,rfl⟩ | ⟨ad,cap,rfl,hc,ho⟩⟩:=h
 · obtain rfl:news=[]:=List.eq_nil_of_length_eq_zero (by simpa using hn)
   have HB:=Lib.hid (Below.refl w.heap.size w)
   clear hn
   go_enter Tryz.func75,Tryz.ntmps75
   go_wp2_with fail
   go_ret
   exact ⟨Below.refl _ _,_,rfl,World.ownsRow_nil _ _ _ _⟩
 · obtain ⟨i0,hi,hz0,hz1,hz2⟩:=info_parts Tryz.infoU
   have HI:=Lib.hid hi
   have HZ0:=Lib.hid hz0
   have HZ1:=Lib.hid hz1
   have HZ2:=Lib.hid hz2
   have HN:=Lib.hid hn
   have HC:=Lib.hid hc
   have HO:=Lib.hid ho
   clear hi hz0 hz1 hz2 hn hc ho
   go_enter Tryz.func75,Tryz.ntmps75
   go_wp2_with (at_builtin; refine wpList_append_own_at _ rfl _ _ 34 rfl w.heap.size 33 i0 (.int .u32 0) 1 4 Tryz.underlying34 HI.out HZ0.out HZ1.out HZ2.out rfl (by decide) _ 0 [] rfl (World.ownsRow_nil _ _ _ _) ad len cap news rfl HN.out ?c1 HO.out ?c3 ?c4 ?c5 ?_)
   case c1=>exact HC.out
   case c3=>unfold maxLen; omega
   case c4=>omega
   case c5=>exact Nat.le_refl _
   intro v' w2 hown' hgrow _ _
   have HG:=Lib.hid (Below.grown (Below.refl w.heap.size w) hgrow (Nat.le_refl _) (fun g hg=>by cases hg))
   have HW:=Lib.hid hown'
   clear hown' hgrow
   go_wp2
   go_ret
   exact ⟨HG.out,_,rfl,by simpa using HW.out⟩
set_option maxHeartbeats 1000000 in
theorem copyM_int64 (v:Value) (len:Nat) (news:List Value) (w:World) (h:RowIs w 1 v len news) (hl:len≤1000000):Calls Tryz.prog 76 #[v] w (CopyPost 2 1 len news w):=by
 obtain ⟨hn,⟨c,rfl,rfl⟩ | ⟨ad,cap,rfl,hc,ho⟩⟩:=h
 · obtain rfl:news=[]:=List.eq_nil_of_length_eq_zero (by simpa using hn)
   have HB:=Lib.hid (Below.refl w.heap.size w)
   clear hn
   go_enter Tryz.func76,Tryz.ntmps76
   go_wp2_with fail
   go_ret
   exact ⟨Below.refl _ _,_,rfl,World.ownsRow_nil _ _ _ _⟩
 · obtain ⟨i0,hi,hz0,hz1,hz2⟩:=info_parts Tryz.info2
   have HI:=Lib.hid hi
   have HZ0:=Lib.hid hz0
   have HZ1:=Lib.hid hz1
   have HZ2:=Lib.hid hz2
   have HN:=Lib.hid hn
   have HC:=Lib.hid hc
   have HO:=Lib.hid ho
   clear hi hz0 hz1 hz2 hn hc ho
   go_enter Tryz.func76,Tryz.ntmps76
   go_wp2_with (at_builtin; refine wpList_append_own_at _ rfl _ _ 35 rfl w.heap.size 2 i0 (.int .i64 0) 1 8 Tryz.underlying35 HI.out HZ0.out HZ1.out HZ2.out rfl (by decide) _ 0 [] rfl (World.ownsRow_nil _ _ _ _) ad len cap news rfl HN.out ?c1 HO.out ?c3 ?c4 ?c5 ?_)
   case c1=>exact HC.out
   case c3=>unfold maxLen; omega
   case c4=>omega
   case c5=>exact Nat.le_refl _
   intro v' w2 hown' hgrow _ _
   have HG:=Lib.hid (Below.grown (Below.refl w.heap.size w) hgrow (Nat.le_refl _) (fun g hg=>by cases hg))
   have HW:=Lib.hid hown'
   clear hown' hgrow
   go_wp2
   go_ret
   exact ⟨HG.out,_,rfl,by simpa using HW.out⟩
set_option maxHeartbeats 1000000 in
theorem copyM_int (v:Value) (len:Nat) (news:List Value) (w:World) (h:RowIs w 1 v len news) (hl:len≤1000000):Calls Tryz.prog 77 #[v] w (CopyPost 3 1 len news w):=by
 obtain ⟨hn,⟨c,rfl,rfl⟩ | ⟨ad,cap,rfl,hc,ho⟩⟩:=h
 · obtain rfl:news=[]:=List.eq_nil_of_length_eq_zero (by simpa using hn)
   have HB:=Lib.hid (Below.refl w.heap.size w)
   clear hn
   go_enter Tryz.func77,Tryz.ntmps77
   go_wp2_with fail
   go_ret
   exact ⟨Below.refl _ _,_,rfl,World.ownsRow_nil _ _ _ _⟩
 · obtain ⟨i0,hi,hz0,hz1,hz2⟩:=info_parts Tryz.info3
   have HI:=Lib.hid hi
   have HZ0:=Lib.hid hz0
   have HZ1:=Lib.hid hz1
   have HZ2:=Lib.hid hz2
   have HN:=Lib.hid hn
   have HC:=Lib.hid hc
   have HO:=Lib.hid ho
   clear hi hz0 hz1 hz2 hn hc ho
   go_enter Tryz.func77,Tryz.ntmps77
   go_wp2_with (at_builtin; refine wpList_append_own_at _ rfl _ _ 36 rfl w.heap.size 3 i0 (.int .i64 0) 1 8 Tryz.underlying36 HI.out HZ0.out HZ1.out HZ2.out rfl (by decide) _ 0 [] rfl (World.ownsRow_nil _ _ _ _) ad len cap news rfl HN.out ?c1 HO.out ?c3 ?c4 ?c5 ?_)
   case c1=>exact HC.out
   case c3=>unfold maxLen; omega
   case c4=>omega
   case c5=>exact Nat.le_refl _
   intro v' w2 hown' hgrow _ _
   have HG:=Lib.hid (Below.grown (Below.refl w.heap.size w) hgrow (Nat.le_refl _) (fun g hg=>by cases hg))
   have HW:=Lib.hid hown'
   clear hown' hgrow
   go_wp2
   go_ret
   exact ⟨HG.out,_,rfl,by simpa using HW.out⟩
structure R3 (B:Nat) (w:World) (vh ve vi:Value) (H:List Nat) (env ins:List Int):Prop where
 hist:OwnHist B w vh H
 env:OwnEnv B w ve env
 ins:OwnIns B w vi ins
theorem R3.run_else {B b k:Nat} {w:World} {ty:TypeId} {cs:Array Value} {vh ve vi:Value} {H:List Nat} {env ins:List Int} (h:R3 B w vh ve vi H env ins) (hb:Blk w b ty cs) (h1:33 ≠ ty) (h2:2 ≠ ty) (h3:3 ≠ ty) (a0 a1 a2 a3 a4:Value):R3 B (set5 w b k a0 a1 a2 a3 a4) vh ve vi H env ins:=by
 have k1:=hb.set_ k a0
 have k2:=k1.set_ (k+1) a1
 have k3:=k2.set_ (k+2) a2
 have k4:=k3.set_ (k+3) a3
 exact ⟨⟨RowAt.apart (RowAt.apart (RowAt.apart (RowAt.apart (RowAt.apart h.hist.1 hb h1 k a0) k1 h1 (k+1) a1) k2 h1 (k+2) a2) k3 h1 (k+3) a3) k4 h1 (k+4) a4,h.hist.2⟩,
  RowAt.apart (RowAt.apart (RowAt.apart (RowAt.apart (RowAt.apart h.env hb h2 k a0) k1 h2 (k+1) a1) k2 h2 (k+2) a2) k3 h2 (k+3) a3) k4 h2 (k+4) a4,own_run_else h.ins hb h3 a0 a1 a2 a3 a4⟩
set_option maxHeartbeats 4000000 in
set_option maxRecDepth 100000 in
theorem copyRun_any (n:Int) (vh ve vi:Value) (H:List Nat) (env ins:List Int) (st:Int) (w:World) (hH:HistAt w vh H) (hHl:H.length≤1000) (hE:NumsAt w ve env) (hEl:env.length≤1000) (hI:ListAt w vi ins) (hIl:ins.length≤1000000) :
 Calls Tryz.prog 40 #[.agg #[.int .u32 n,vh,ve,vi,.int .i64 st]] w fun e w'=>Below w.heap.size w w'∧∃ vh' ve' vi',e=.returned (.agg #[.int .u32 n,vh',ve',vi',.int .i64 st])∧R3 w.heap.size w' vh' ve' vi' H env ins:=by
 obtain ⟨hA,hcap,rfl,-⟩:=RowsAt.slice hH
 obtain ⟨eA,ecap,rfl,-⟩:=RowsAt.slice (rows_of_nums hE)
 obtain ⟨iA,icap,rfl,-⟩:=RowsAt.slice hI
 have hb0:Below w.heap.size w ((w.alloc (.cells #[.int .u32 n,.slice hA H.length hcap,.slice eA env.length ecap,.slice iA ins.length icap,.int .i64 st] 38)).alloc (.cells #[.int .u32 0,.slice none 0 0,.slice none 0 0,.slice none 0 0,.int .i64 0] 38)):=(below_box w _).alloc (by simp) _
 have HX0:=Lib.hid ((Blk.new w 38 #[.int .u32 n,.slice hA H.length hcap,.slice eA env.length ecap,.slice iA ins.length icap,.int .i64 st]).alloc (.cells #[.int .u32 0,.slice none 0 0,.slice none 0 0,.slice none 0 0,.int .i64 0] 38))
 have HY0:=Lib.hid (Blk.new_at (w.alloc (.cells #[.int .u32 n,.slice hA H.length hcap,.slice eA env.length ecap,.slice iA ins.length icap,.int .i64 st] 38)) 38 #[.int .u32 0,.slice none 0 0,.slice none 0 0,.slice none 0 0,.int .i64 0] (w.heap.size+1) (by simp))
 have HB0:=Lib.hid hb0
 have HRH:=Lib.hid (fun (W:World) (h:Below w.heap.size w W)=>copyM_uint32 _ _ _ W (rowIs_hist (hH.below h)) (by omega))
 have HRE:=Lib.hid (fun (W:World) (h:Below w.heap.size w W)=>copyM_int64 _ _ _ W (rowIs_ints (rows_of_nums (hE.below h))) (by omega))
 have HRI:=Lib.hid (fun (W:World) (h:Below w.heap.size w W)=>copyM_int _ _ _ W (rowIs_ints (hI.below h)) hIl)
 have HLT:=Lib.hid hH.lt
 clear hH hE hI hb0
 go_enter Tryz.func40,Tryz.ntmps40
 go_wp2_with fail
 generalize (w.alloc (.cells #[.int .u32 n,.slice hA H.length hcap,.slice eA env.length ecap,.slice iA ins.length icap,.int .i64 st] 38)).alloc (.cells #[.int .u32 0,.slice none 0 0,.slice none 0 0,.slice none 0 0,.int .i64 0] 38)=w0 at *
 refine anyD_start (fun W=>W.cell? ⟨w.heap.size,1,none⟩=some (.slice hA H.length hcap)∧W.cell? ⟨w.heap.size,2,none⟩=some (.slice eA env.length ecap)∧W.cell? ⟨w.heap.size,3,none⟩=some (.slice iA ins.length icap)) (fun i=>[10,12,14].contains i) (by kernel_rfl) ?_
 try simp only [Act.put,sx]
 have HB1:=Lib.hid HB0.out.drew
 have HX1:=Lib.hid HX0.out.drew
 have HY1:=Lib.hid HY0.out.drew
 clear HB0 HX0 HY0
 generalize w0.drew=w1 at *
 have r1:=HX1.out.cell 1
 have r2:=HX1.out.cell 2
 have r3:=HX1.out.cell 3
 refine anyD_t 0 (.pointer (some ⟨w.heap.size,1,none⟩)) ?_
 try simp only [Act.put,sx]
 refine anyD_l 1 (.slice hA H.length hcap) (⟨r1,r2,r3⟩) ?_
 try simp only [Act.put,sx]
 refine anyD_t 3 (.pointer (some ⟨w.heap.size,2,none⟩)) ?_
 try simp only [Act.put,sx]
 refine anyD_l 4 (.slice eA env.length ecap) (⟨r1,r2,r3⟩) ?_
 try simp only [Act.put,sx]
 refine anyD_t 6 (.pointer (some ⟨w.heap.size,3,none⟩)) ?_
 try simp only [Act.put,sx]
 refine anyD_l 7 (.slice iA ins.length icap) (⟨r1,r2,r3⟩) ?_
 try simp only [Act.put,sx]
 clear r1 r2 r3
 refine anyD_one (i:=2) rfl rfl (by kernel_rfl) (fun K HK=>?_)
 go_simp
 refine (HRH.out w1 HB1.out).mono ?_
 rintro e w2 ⟨hb2,v2,rfl,ho2⟩
 have HB2:=Lib.hid (HB1.out.trans (hb2.mono HB1.out.size))
 have HX2:=Lib.hid (HX1.out.below hb2 HX1.out.lt)
 have HY2:=Lib.hid (HY1.out.below hb2 HY1.out.lt)
 have HH2:Hid (OwnHist w.heap.size w2 v2 H):=Lib.hid ⟨RowAt.lower (RowAt.of_own (cells:=u32Cells) (n:=1) (fun _=>rfl) ho2) HB1.out.size,HLT.out⟩
 clear hb2 ho2 HX1 HY1 HRH
 obtain ⟨A2,c2,rfl⟩:=HH2.out.slice
 go_simp
 refine HK.out _ _ (fun _ hS=>⟨HX2.out.cell 1,HX2.out.cell 2,HX2.out.cell 3⟩) ?_
 clear HK K
 try simp only [Act.put,sx]
 refine anyD_t 9 (.pointer (some ⟨w.heap.size,1,none⟩)) ?_
 try simp only [Act.put,sx]
 refine anyD_one (i:=5) rfl rfl (by kernel_rfl) (fun K HK=>?_)
 go_simp
 refine (HRE.out w2 HB2.out).mono ?_
 rintro e w3 ⟨hb3,v3,rfl,ho3⟩
 have HB3:=Lib.hid (HB2.out.trans (hb3.mono HB2.out.size))
 have HX3:=Lib.hid (HX2.out.below hb3 HX2.out.lt)
 have HY3:=Lib.hid (HY2.out.below hb3 HY2.out.lt)
 have HH3:=Lib.hid (HH2.out.below hb3)
 have HE3:Hid (OwnEnv w.heap.size w3 v3 env):=Lib.hid (RowAt.lower (env_of_own ho3 rfl) HB2.out.size)
 clear hb3 ho3 HX2 HY2 HH2 HRE HB1
 obtain ⟨A3,c3,rfl⟩:=OwnEnv.slice HE3.out
 go_simp
 refine HK.out _ _ (fun _ hS=>⟨HX3.out.cell 1,HX3.out.cell 2,HX3.out.cell 3⟩) ?_
 clear HK K
 try simp only [Act.put,sx]
 refine anyD_one (i:=8) rfl rfl (by kernel_rfl) (fun K HK=>?_)
 go_simp
 refine (HRI.out w3 HB3.out).mono ?_
 rintro e w4 ⟨hb4,v4,rfl,ho4⟩
 have HB4:=Lib.hid (HB3.out.trans (hb4.mono HB3.out.size))
 have HX4:=Lib.hid (HX3.out.below hb4 HX3.out.lt)
 have HY4:=Lib.hid (HY3.out.below hb4 HY3.out.lt)
 have HH4:=Lib.hid (HH3.out.below hb4)
 have HE4:=Lib.hid (OwnEnv.below HE3.out hb4)
 have HI4:Hid (OwnIns w.heap.size w4 v4 ins):=Lib.hid (own_base ho4 HB3.out.size)
 clear hb4 ho4 HX3 HY3 HH3 HE3 HRI HB2 HB3
 obtain ⟨A4,c4,rfl⟩:=own_slice HI4.out
 go_simp
 refine HK.out _ _ (fun _ hS=>⟨HX4.out.cell 1,HX4.out.cell 2,HX4.out.cell 3⟩) ?_
 clear HK K
 try simp only [Act.put,sx]
 have g1:=HX4.out.cell 1
 have g2:=HX4.out.cell 2
 have g3:=HX4.out.cell 3
 have k1:=HX4.out.frozen 1
 have k2:=HX4.out.frozen 2
 have k3:=HX4.out.frozen 3
 refine anyD_one (i:=10) rfl rfl (by kernel_rfl) (fun K HK=>?_)
 go_simp
 go_simp
 refine HK.out _ _ (fun h=>absurd h (by decide)) ?_
 clear HK K
 try simp only [Act.put,sx]
 refine anyD_t 11 (.pointer (some ⟨w.heap.size,2,none⟩)) ?_
 try simp only [Act.put,sx]
 refine anyD_one (i:=12) rfl rfl (by kernel_rfl) (fun K HK=>?_)
 go_simp
 go_simp
 refine HK.out _ _ (fun h=>absurd h (by decide)) ?_
 clear HK K
 try simp only [Act.put,sx]
 refine anyD_t 13 (.pointer (some ⟨w.heap.size,3,none⟩)) ?_
 try simp only [Act.put,sx]
 refine anyD_one (i:=14) rfl rfl (by kernel_rfl) (fun K HK=>?_)
 go_simp
 go_simp
 refine HK.out _ _ (fun h=>absurd h (by decide)) ?_
 clear HK K
 try simp only [Act.put,sx]
 refine anyD_done (by kernel_rfl) ?_
 have HX5:=Lib.hid ((((HX4.out.set_ 1 (.slice A2 H.length c2)).set_ 2 (.slice A3 env.length c3)).set_ 3 (.slice A4 ins.length c4)))
 have ke1:=HX4.out.set_ 1 (.slice A2 H.length c2)
 have ke2:=ke1.set_ 2 (.slice A3 env.length c3)
 have HR5:Hid (R3 w.heap.size (((w4.setCell ⟨w.heap.size,1,none⟩ (.slice A2 H.length c2)).setCell ⟨w.heap.size,2,none⟩ (.slice A3 env.length c3)).setCell ⟨w.heap.size,3,none⟩ (.slice A4 ins.length c4)) (.slice A2 H.length c2) (.slice A3 env.length c3) (.slice A4 ins.length c4) H env ins):=Lib.hid ⟨
  ⟨RowAt.apart (RowAt.apart (RowAt.apart HH4.out.1 HX4.out (by decide) 1 _) ke1 (by decide) 2 _) ke2 (by decide) 3 _,HLT.out⟩,
  RowAt.apart (RowAt.apart (RowAt.apart HE4.out HX4.out (by decide) 1 _) ke1 (by decide) 2 _) ke2 (by decide) 3 _,
  own_apart (own_apart (own_apart HI4.out HX4.out (by decide) 1 _) ke1 (by decide) 2 _) ke2 (by decide) 3 _⟩
 have HY5:=Lib.hid (((HY4.out.set_ne (g':=w.heap.size) (by omega) 1 (.slice A2 H.length c2)).set_ne (g':=w.heap.size) (by omega) 2 (.slice A3 env.length c3)).set_ne (g':=w.heap.size) (by omega) 3 (.slice A4 ins.length c4))
 have HB5:=Lib.hid (((HB4.out.setCell (p:=⟨w.heap.size,1,none⟩) (Nat.le_refl _) (.slice A2 H.length c2)).setCell (p:=⟨w.heap.size,2,none⟩) (Nat.le_refl _) (.slice A3 env.length c3)).setCell (p:=⟨w.heap.size,3,none⟩) (Nat.le_refl _) (.slice A4 ins.length c4))
 clear ke1 ke2 g1 g2 g3 k1 k2 k3 HX4 HY4 HH4 HE4 HI4 HB4
 generalize (((w4.setCell ⟨w.heap.size,1,none⟩ (.slice A2 H.length c2)).setCell ⟨w.heap.size,2,none⟩ (.slice A3 env.length c3)).setCell ⟨w.heap.size,3,none⟩ (.slice A4 ins.length c4))=w5 at *
 obtain ⟨⟨x0,x1,x2,x3,x4⟩,-⟩:=blk5_facts HX5.out
 obtain ⟨⟨y0,y1,y2,y3,y4⟩,q0,q1,q2,q3,q4⟩:=blk5_facts HY5.out
 go_wp2_with fail
 have hr6:=HR5.out.run_else (k:=0) HY5.out (by decide) (by decide) (by decide) (.int .u32 n) (.slice A2 H.length c2) (.slice A3 env.length c3) (.slice A4 ins.length c4) (.int .i64 st)
 have hb6:=((((HB5.out.setCell (p:=⟨w.heap.size+1,0,none⟩) (Nat.le_succ _) (.int .u32 n)).setCell (p:=⟨w.heap.size+1,1,none⟩) (Nat.le_succ _) (.slice A2 H.length c2)).setCell (p:=⟨w.heap.size+1,2,none⟩) (Nat.le_succ _) (.slice A3 env.length c3)).setCell (p:=⟨w.heap.size+1,3,none⟩) (Nat.le_succ _) (.slice A4 ins.length c4)).setCell (p:=⟨w.heap.size+1,4,none⟩) (Nat.le_succ _) (.int .i64 st)
 refine bodyPost_ret (results_own rfl _ _ _ rfl (load_run (((((HY5.out.set_ 0 _).set_ 1 _).set_ 2 _).set_ 3 _).set_ 4 _))) rfl ?_
 exact ⟨hb6,_,_,_,rfl,hr6⟩

section
variable {w0:World} {t g:Nat} {C:Ch} {w:World} {vh ve vi vo:Value} {X:Se} {f:Nat}
set_option maxHeartbeats 4000000 in
set_option maxRecDepth 100000 in
theorem mcstep_any (hL:Laid w0) (hT:TreeAt w0 t C) (hC:Chk C) (h:MsAt w0 t g C w vh ve vi vo X f) (hl:X.hist.length=C.sts.length) (hel:X.env.length≤1000) (hef:∀ x ∈ X.env,F64 x) (hil:X.ins.length≤100000) (hol:X.out.length≤1000000)
 (vl:Value) (l:List Int) (hv:ListAt w vl l) (hll:l.length≤24) (hin:∀ i ∈ l,isTr C.trs i=true) :
 Calls Tryz.prog 80 #[.pointer (some ⟨g,0,none⟩),vl] w (MPost w0 t g C (stpO C l X) f):=by
 obtain ⟨i1,ji,jz0,jz1,jz2⟩:=info_parts Tryz.infoOut
 have JI:=Lib.hid ji
 have JZ0:=Lib.hid jz0
 have JZ1:=Lib.hid jz1
 have JZ2:=Lib.hid jz2
 have hcl:=(tame_of hC.chk).len
 have hst:=fun (W:World) (hb:Below w.heap.size w W)=>mstep_any t C W (hL.after (h.after hb).below) (hT.below (h.after hb).below) hC.chk hC.fewB (bitN (cfN C X)) vh ve vi vl X.hist X.env X.ins l X.st (h.after hb).rows.hist.hist (by omega) (OwnEnv.nums (h.after hb).rows.env) hel hef (h.after hb).rows.ins.list hil (hv.below hb) (by omega) hin
 obtain ⟨Y,hY⟩:∃ Y,stpS C l ⟨bitN (cfN C X),padH C.sts.length X.hist,X.env,X.ins,X.st,[]⟩=Y:=⟨_,rfl⟩
 have hYO:Y.out.length≤50 * 1000:=by
  have:=(stpS_lim hC.few l (n:=0) (X:=⟨bitN (cfN C X),padH C.sts.length X.hist,X.env,X.ins,X.st,[]⟩) ⟨hel,hef,by simp,by show X.ins.length≤_; omega⟩).out
  rw [hY] at this
  omega
 have HR:Hid (stpO C l X=⟨Y.a,Y.hist,Y.env,Y.ins,Y.st,X.out ++ Y.out⟩):=Lib.hid (by rw [← hY]; rfl)
 rw [hY,cfN_bit] at hst
 have HST:Hid (∀ (W:World),Below w.heap.size w W→Calls Tryz.prog 130 #[.pointer (some ⟨t,0,none⟩),.agg #[.int .u32 ((bset X.a C.sts.length:Nat):Int),vh,ve,vi,.int .i64 X.st],vl] W (StPost C Y W)):=Lib.hid hst
 have HS:=Lib.hid h
 have HYO:=Lib.hid hYO
 have HOL:=Lib.hid hol
 obtain ⟨hA,hcap,rfl⟩:=h.rows.hist.slice
 obtain ⟨eA,ecap,rfl⟩:=OwnEnv.slice h.rows.env
 obtain ⟨iA,icap,rfl⟩:=h.rows.ins.slice
 obtain ⟨oA,ocap,rfl⟩:=own_slice h.rows.out
 obtain ⟨lA,lcap,rfl,-⟩:=RowsAt.slice hv
 clear hL hT hC h hl hel hef hil hv hin hst hY hYO hcl hol ji jz0 jz1 jz2
 have HB0:=Lib.hid (Below.refl w.heap.size w)
 go_enter Tryz.func80,Tryz.ntmps80
 go_wp2_with fail
 refine anyD_start (fun W=>W.cell? ⟨g,0,none⟩=some (.pointer (some ⟨t,0,none⟩))∧W.cell? ⟨g,1,none⟩=some (.int .u32 ((bset X.a C.sts.length:Nat):Int))∧W.cell? ⟨g,2,none⟩=some (.slice hA X.hist.length hcap)∧W.cell? ⟨g,3,none⟩=some (.slice eA X.env.length ecap)∧W.cell? ⟨g,4,none⟩=some (.slice iA X.ins.length icap)∧W.cell? ⟨g,5,none⟩=some (.int .i64 X.st)) (fun i=>[14].contains i) (by kernel_rfl) ?_
 try simp only [Act.put,sx]
 have HS1:=Lib.hid HS.out.drew
 have HB1:=Lib.hid HB0.out.drew
 clear HS HB0
 generalize w.drew=w1 at *
 obtain ⟨x0,x1,x2,x3,x4,x5,x6,x7⟩:=HS1.out.cells
 refine anyD_t 0 (.pointer (some ⟨g,0,none⟩)) ?_
 try simp only [Act.put,sx]
 refine anyD_t 1 (.pointer (some ⟨g,0,none⟩)) ?_
 try simp only [Act.put,sx]
 refine anyD_t 2 (.pointer (some ⟨g,0,none⟩)) ?_
 try simp only [Act.put,sx]
 refine anyD_l 3 (.pointer (some ⟨t,0,none⟩)) (⟨x0,x1,x2,x3,x4,x5⟩) ?_
 try simp only [Act.put,sx]
 refine anyD_t 4 (.pointer (some ⟨g,0,none⟩)) ?_
 try simp only [Act.put,sx]
 refine anyD_t 5 (.pointer (some ⟨g,0,none⟩)) ?_
 try simp only [Act.put,sx]
 refine anyD_t 6 (.pointer (some ⟨g,1,none⟩)) ?_
 try simp only [Act.put,sx]
 refine anyD_l 7 (.agg #[.int .u32 ((bset X.a C.sts.length:Nat):Int),.slice hA X.hist.length hcap,.slice eA X.env.length ecap,.slice iA X.ins.length icap,.int .i64 X.st]) (⟨x0,x1,x2,x3,x4,x5⟩) ?_
 try simp only [Act.put,sx]
 refine anyD_t 8 (.slice lA l.length lcap) ?_
 try simp only [Act.put,sx]
 clear x0 x1 x2 x3 x4 x5 x6 x7
 refine anyD_two (i:=9) (j:=13) rfl rfl rfl rfl (by kernel_rfl) (fun K HK=>?orderA) (fun K HK=>?orderB)
 case' orderA =>
  go_simp
  refine (HST.out w1 HB1.out).mono ?_
  rintro e w2 ⟨hb2,v2,vo2,rfl,vh2,ve2,vi2,rfl,hr2⟩
  obtain ⟨hA2,hcap2,rfl⟩:=hr2.hist.slice
  obtain ⟨eA2,ecap2,rfl⟩:=OwnEnv.slice hr2.env
  obtain ⟨iA2,icap2,rfl⟩:=own_slice hr2.ins
  obtain ⟨oA2,ocap2,rfl⟩:=own_slice hr2.out
  have HS2:=Lib.hid (HS1.out.after hb2)
  have HR2:=Lib.hid (hr2.lower HS1.out.lt)
  clear hb2 hr2
  obtain ⟨x0,x1,x2,x3,x4,x5,x6,x7⟩:=HS2.out.cells
  go_simp
  refine HK.out _ _ (fun _ hS=>⟨x0,x1,x2,x3,x4,x5⟩) ?_
  clear HK K
  try simp only [Act.put,sx]
  refine anyD_t 10 (.tuple #[.agg #[.int .u32 ((bset Y.a C.sts.length:Nat):Int),.slice hA2 Y.hist.length hcap2,.slice eA2 Y.env.length ecap2,.slice iA2 Y.ins.length icap2,.int .i64 Y.st],.slice oA2 Y.out.length ocap2]) ?_
  try simp only [Act.put,sx]
  refine anyD_t 11 (.agg #[.int .u32 ((bset Y.a C.sts.length:Nat):Int),.slice hA2 Y.hist.length hcap2,.slice eA2 Y.env.length ecap2,.slice iA2 Y.ins.length icap2,.int .i64 Y.st]) ?_
  try simp only [Act.put,sx]
  refine anyD_t 12 (.slice oA2 Y.out.length ocap2) ?_
  try simp only [Act.put,sx]
  have HS3:=Lib.hid (HS2.out.after (below_box w2 (.cells #[.int .u32 0,.slice none 0 0,.slice none 0 0,.slice none 0 0,.int .i64 0] 38)))
  have HR3:=Lib.hid (HR2.out.below (below_box w2 (.cells #[.int .u32 0,.slice none 0 0,.slice none 0 0,.slice none 0 0,.int .i64 0] 38)))
  have HK3:=Lib.hid (Blk.new w2 38 #[.int .u32 0,.slice none 0 0,.slice none 0 0,.slice none 0 0,.int .i64 0])
  have HBB:=Lib.hid HS2.out.lt
  clear x0 x1 x2 x3 x4 x5 x6 x7 HS2 HR2
  obtain ⟨x0,x1,x2,x3,x4,x5,x6,x7⟩:=HS3.out.cells
  refine anyD_one (i:=13) rfl rfl (by kernel_rfl) (fun K HK=>?_)
  go_simp
  go_simp
  refine HK.out _ _ (fun _ hS=>⟨x0,x1,x2,x3,x4,x5⟩) ?_
  clear HK K
  try simp only [Act.put,sx]
  generalize w2.alloc (.cells #[.int .u32 0,.slice none 0 0,.slice none 0 0,.slice none 0 0,.int .i64 0] 38)=w3 at *
  generalize w2.heap.size=b at *
 case' orderB =>
  have HS2:=Lib.hid (HS1.out.after (below_box w1 (.cells #[.int .u32 0,.slice none 0 0,.slice none 0 0,.slice none 0 0,.int .i64 0] 38)))
  have HK2:=Lib.hid (Blk.new w1 38 #[.int .u32 0,.slice none 0 0,.slice none 0 0,.slice none 0 0,.int .i64 0])
  have HBB:=Lib.hid HS1.out.lt
  obtain ⟨x0,x1,x2,x3,x4,x5,x6,x7⟩:=HS2.out.cells
  go_simp
  refine HK.out _ _ (fun _ hS=>⟨x0,x1,x2,x3,x4,x5⟩) ?_
  clear HK K
  try simp only [Act.put,sx]
  clear x0 x1 x2 x3 x4 x5 x6 x7
  refine anyD_one (i:=9) rfl rfl (by kernel_rfl) (fun K HK=>?_)
  go_simp
  refine (HST.out _ (HB1.out.alloc HB1.out.size (.cells #[.int .u32 0,.slice none 0 0,.slice none 0 0,.slice none 0 0,.int .i64 0] 38))).mono ?_
  rintro e w3 ⟨hb3,v2,vo2,rfl,vh2,ve2,vi2,rfl,hr2⟩
  obtain ⟨hA2,hcap2,rfl⟩:=hr2.hist.slice
  obtain ⟨eA2,ecap2,rfl⟩:=OwnEnv.slice hr2.env
  obtain ⟨iA2,icap2,rfl⟩:=own_slice hr2.ins
  obtain ⟨oA2,ocap2,rfl⟩:=own_slice hr2.out
  have HS3:=Lib.hid (HS2.out.after hb3)
  have HR3:=Lib.hid (hr2.lower HS2.out.lt)
  have HK3:=Lib.hid (HK2.out.below hb3 HK2.out.lt)
  clear hb3 hr2 HS2 HK2
  obtain ⟨x0,x1,x2,x3,x4,x5,x6,x7⟩:=HS3.out.cells
  go_simp
  refine HK.out _ _ (fun _ hS=>⟨x0,x1,x2,x3,x4,x5⟩) ?_
  clear HK K
  try simp only [Act.put,sx]
  refine anyD_t 10 (.tuple #[.agg #[.int .u32 ((bset Y.a C.sts.length:Nat):Int),.slice hA2 Y.hist.length hcap2,.slice eA2 Y.env.length ecap2,.slice iA2 Y.ins.length icap2,.int .i64 Y.st],.slice oA2 Y.out.length ocap2]) ?_
  try simp only [Act.put,sx]
  refine anyD_t 11 (.agg #[.int .u32 ((bset Y.a C.sts.length:Nat):Int),.slice hA2 Y.hist.length hcap2,.slice eA2 Y.env.length ecap2,.slice iA2 Y.ins.length icap2,.int .i64 Y.st]) ?_
  try simp only [Act.put,sx]
  refine anyD_t 12 (.slice oA2 Y.out.length ocap2) ?_
  try simp only [Act.put,sx]
  generalize w1.heap.size=b at *
 all_goals
  clear HS1 HB1 HST
  obtain ⟨⟨p0,p1,p2,p3,p4⟩,q0,q1,q2,q3,q4⟩:=blk5_facts HK3.out
  refine anyD_one (i:=14) rfl rfl (by kernel_rfl) (fun K HK=>?_)
  go_simp
  go_simp
  refine HK.out _ _ (fun h=>absurd h (by decide)) ?_
  clear HK K
  try simp only [Act.put,sx]
  refine anyD_one (i:=15) rfl rfl (by kernel_rfl) (fun K HK=>?_)
  go_simp
  refine HK.out _ _ (fun _ hS=>hS) ?_
  clear HK K
  try simp only [Act.put,sx]
  refine anyD_done (by kernel_rfl) ?_
  have HS4:=Lib.hid (HS3.out.run_else HK3.out HBB.out (.int .u32 ((bset Y.a C.sts.length:Nat):Int)) (.slice hA2 Y.hist.length hcap2) (.slice eA2 Y.env.length ecap2) (.slice iA2 Y.ins.length icap2) (.int .i64 Y.st))
  have HR4:=Lib.hid (HR3.out.run_else (k:=0) HK3.out (by decide) (by decide) (by decide) (by decide) (.int .u32 ((bset Y.a C.sts.length:Nat):Int)) (.slice hA2 Y.hist.length hcap2) (.slice eA2 Y.env.length ecap2) (.slice iA2 Y.ins.length icap2) (.int .i64 Y.st))
  have HK4:Hid (Blk (set5 w3 b 0 (.int .u32 ((bset Y.a C.sts.length:Nat):Int)) (.slice hA2 Y.hist.length hcap2) (.slice eA2 Y.env.length ecap2) (.slice iA2 Y.ins.length icap2) (.int .i64 Y.st)) b 38 #[.int .u32 ((bset Y.a C.sts.length:Nat):Int),.slice hA2 Y.hist.length hcap2,.slice eA2 Y.env.length ecap2,.slice iA2 Y.ins.length icap2,.int .i64 Y.st]):=Lib.hid (((((HK3.out.set_ 0 _).set_ 1 _).set_ 2 _).set_ 3 _).set_ 4 _)
  clear HS3 HR3 HK3 x0 x1 x2 x3 x4 x5 x6 x7 p0 p1 p2 p3 p4 q0 q1 q2 q3 q4
  simp only [set5,Nat.zero_add] at HS4 HR4 HK4
  generalize ((((w3.setCell ⟨b,0,none⟩ (.int .u32 ((bset Y.a C.sts.length:Nat):Int))).setCell ⟨b,1,none⟩ (.slice hA2 Y.hist.length hcap2)).setCell ⟨b,2,none⟩ (.slice eA2 Y.env.length ecap2)).setCell ⟨b,3,none⟩ (.slice iA2 Y.ins.length icap2)).setCell ⟨b,4,none⟩ (.int .i64 Y.st)=w4 at *
  obtain ⟨⟨p0,p1,p2,p3,p4⟩,-⟩:=blk5_facts HK4.out
  obtain ⟨x0,x1,x2,x3,x4,x5,x6,x7⟩:=HS4.out.cells
  obtain ⟨f1,f2,f3,f4,f5,f6,f7⟩:=HS4.out.froz
  have HS5:=Lib.hid (HS4.out.putRun HR4.out)
  have HO5:Hid (OwnOuts w0.heap.size (set5 w4 g 1 (.int .u32 ((bset Y.a C.sts.length:Nat):Int)) (.slice hA2 Y.hist.length hcap2) (.slice eA2 Y.env.length ecap2) (.slice iA2 Y.ins.length icap2) (.int .i64 Y.st)) (.slice oA2 Y.out.length ocap2) Y.out):=Lib.hid (own_run_else HR4.out.out HS4.out.blk (by decide) _ _ _ _ _)
  have HRO:=Lib.hid (rowIs_outs (OwnOuts.outs HO5.out))
  simp only [set5,Nat.reduceAdd] at HS5 HRO
  clear HS4 HR4 HO5 HK4
  go_wp2_with (at_builtin; refine wpList_append_row3 rfl _ _ 39 rfl w0.heap.size 77 i1 (.agg #[.int .i64 0,.int .i64 0,.int .i64 0,.int .i64 0]) 4 32 Tryz.underlying39 JI.out JZ0.out JZ1.out JZ2.out rfl (by decide) _ X.out.length (X.out.flatMap ouCells) rfl HS5.out.rows.out _ Y.out.length (Y.out.flatMap ouCells) rfl HRO.out (Below.refl _ _) ?c3 ?c4 ?c5 ?_)
  case c3=>have:=HYO.out; have:=HOL.out; unfold maxLen; omega
  case c4=>have:=HYO.out; have:=HOL.out; omega
  case c5=>exact HS5.out.lt
  intro v6 w6 hown6 hgrow6 h6
  obtain ⟨A6,cap6,rfl⟩:=own_slice hown6
  have HS6:=Lib.hid (HS5.out.growO (L:=X.out ++ Y.out) hgrow6 (by unfold OwnOuts; rw [List.length_append,List.flatMap_append]; exact hown6))
  have hb6:=HS5.out.growO0 hgrow6 (vo':=.slice A6 (X.out.length+Y.out.length) cap6) (L:=X.out ++ Y.out)
  have y7:=hb6.cell 7
  have u7:=hb6.frozen 7
  clear hown6 hgrow6 h6 hb6 HS5 HRO x0 x1 x2 x3 x4 x5 x6 x7 f1 f2 f3 f4 f5 f6 f7 p0 p1 p2 p3 p4
  go_wp2_with fail
  go_end0
  rw [HR.out]
  exact ⟨rfl,_,_,_,_,HS6.out⟩
end
end Go.Proofs.YtmhkpjcdkjnlnaaGreatDoor
