/- The contract of the document's Of: a session that stands as it is told. -/
import Derived.Test.YtfgkcjmeiabdjaaGreatDoorFIro
import Derived.Test.YtfgkcjmeiabdjaaGreatDoorFIup
import Derived.Test.YtfgkcjmeiabdjaaGreatDoorFCarg
namespace Go.Proofs.YtfgkcjmeiabdjaaGreatDoor
open Go.ChangeShapes Go.WideShapes Go.ChangeAt Go.RowKit
set_option linter.unusedVariables false

structure OfAt (w0:World) (g ba:Nat) (vs vt:Value) (C:Ch) (n:Nat) (st:Int) (w:World) (vh:Value) (H:List Nat):Prop where
  below:Below w0.heap.size w0 w
  ge:w0.heap.size≤g∧w0.heap.size≤ba
  ne:ba ≠ g
  blk:Blk w g 50 #[.int .i64 C.vars,vs,vt,.slice (some ⟨ba,0,none⟩) C.sts.length C.sts.length,vh,.slice none 0 0,.slice none 0 0,.int .i64 st,.slice none 0 0,.int .i64 40]
  act:TruAt w ba C.sts.length (bitN n)
  own:w.ownsRow w0.heap.size 33 1 vh H.length (H.flatMap u32Cells)
section
variable {w0:World} {g ba:Nat} {vs vt:Value} {C:Ch} {n:Nat} {st:Int} {w w':World} {vh:Value} {H:List Nat}
theorem OfAt.lt (h:OfAt w0 g ba vs vt C n st w vh H):w0.heap.size≤w.heap.size:=h.below.size
theorem OfAt.after (h:OfAt w0 g ba vs vt C n st w vh H) (hb:Below w.heap.size w w'):OfAt w0 g ba vs vt C n st w' vh H :=
  ⟨h.below.trans (hb.mono h.lt),h.ge,h.ne,h.blk.below hb h.blk.lt,h.act.below hb,own_below h.own hb⟩
theorem OfAt.drew (h:OfAt w0 g ba vs vt C n st w vh H):OfAt w0 g ba vs vt C n st w.drew vh H:=h.after (Below.refl _ _).drew
theorem OfAt.grow (h:OfAt w0 g ba vs vt C n st w vh H) {vh':Value} {L:List Nat} (hg:w.grownBy w' vh.ownBlock) (ho:w'.ownsRow w0.heap.size 33 1 vh' (H.length+L.length) (H.flatMap u32Cells ++ L.flatMap u32Cells)):OfAt w0 g ba vs vt C n st (w'.setCell ⟨g,4,none⟩ vh') vh' (H ++ L):=by
  have hb:=blk_grown h.blk h.own (by decide) hg
  obtain ⟨cur,h1,h2⟩:=h.act
  have h1':=blk_grown h1 h.own (by decide) hg
  refine ⟨(grown_below (g:=g) h.below h.own h.lt hg).setCell h.ge.1 _,h.ge,h.ne,hb.set_ 4 vh',⟨cur,h1'.set_ne h.ne 4 vh',h2⟩,?_⟩
  rw [List.length_append,List.flatMap_append]
  exact own_apart ho hb (by decide) 4 vh'
end
theorem rowU_one (w:World) (x:Nat):RowIs (w.alloc (.cells #[.int .u32 (x:Int)] 33)) 1 (.slice (some ⟨w.heap.size,0,none⟩) 1 1) 1 [.int .u32 (x:Int)] :=
  ⟨rfl,.inr ⟨⟨w.heap.size,0,none⟩,1,rfl,fun j u hu=>by
    cases j with
    | zero =>
      simp at hu
      subst hu
      exact (Blk.new w 33 #[.int .u32 (x:Int)]).cell 0
    | succ j=>simp at hu,fun u hu=>by rw [List.mem_singleton.1 hu]; rfl⟩⟩
def lenOf4 (w:World) (g:Nat):Nat:=match w.cell? ⟨g,4,none⟩ with
  | some (.slice _ n _)=>n
  | _=>0
set_option maxHeartbeats 8000000 in
set_option maxRecDepth 100000 in
theorem of12_any (vs vt vh ve vi:Value) (C:Ch) (n:Nat) (H:List Nat) (env ins:List Int) (st:Int) (w:World) (hC:ChHas w vs vt C) (hl:C.sts.length≤31) (hn:n < 4294967296)
    (hH:HistAt w vh H) (hHl:H.length≤1000) (hE:NumsAt w ve env) (hEl:env.length≤1000) (hI:ListAt w vi ins) (hIl:ins.length≤1000) :
    Calls Tryz.prog 27 #[.agg #[.int .i64 C.vars,vs,vt],.agg #[.int .u32 (n:Int),vh,ve,vi,.int .i64 st]] w fun e w'=>∃ g ba vh' ve' vi',e=.returned (.pointer (some ⟨g,0,none⟩)) ∧
      DeAt w g ba vs vt C 40 w' vh' ve' vi' (.slice none 0 0) ⟨bitN n,padH C.sts.length H,env,ins,st,[]⟩:=by
  obtain ⟨iU,hi,hz0,hz1,hz2⟩:=info_parts Tryz.infoU
  obtain ⟨iL,ji,jz0,jz1,jz2⟩:=info_parts Tryz.info2
  obtain ⟨iI,ki,kz0,kz1,kz2⟩:=info_parts Tryz.info3
  have HI:=Lib.hid hi
  have HZ0:=Lib.hid hz0
  have HZ1:=Lib.hid hz1
  have HZ2:=Lib.hid hz2
  have JI:=Lib.hid ji
  have JZ0:=Lib.hid jz0
  have JZ1:=Lib.hid jz1
  have JZ2:=Lib.hid jz2
  have KI:=Lib.hid ki
  have KZ0:=Lib.hid kz0
  have KZ1:=Lib.hid kz1
  have KZ2:=Lib.hid kz2
  obtain ⟨sA,scap,tA,tcap,rfl,rfl⟩:=hC.slices
  obtain ⟨hA,hcap,rfl,hhcap⟩:=RowsAt.slice hH
  obtain ⟨eA,ecap,rfl,hecap⟩:=RowsAt.slice (rows_of_nums hE)
  obtain ⟨iA,icap,rfl,hicap⟩:=RowsAt.slice hI
  have HX0:=Lib.hid (Blk.new w 25 #[.int .i64 C.vars,.slice sA C.sts.length scap,.slice tA C.trs.length tcap])
  have hb1:Below w.heap.size w ((w.alloc (chBox C.vars (.slice sA C.sts.length scap) (.slice tA C.trs.length tcap))).alloc (.cells #[.int .u32 (n:Int),.slice hA H.length hcap,.slice eA env.length ecap,.slice iA ins.length icap,.int .i64 st] 38)):=(below_box w _).alloc (by simp) _
  have HX1:=Lib.hid (HX0.out.alloc (.cells #[.int .u32 (n:Int),.slice hA H.length hcap,.slice eA env.length ecap,.slice iA ins.length icap,.int .i64 st] 38))
  have HR1:=Lib.hid (Blk.new_at (w.alloc (chBox C.vars (.slice sA C.sts.length scap) (.slice tA C.trs.length tcap))) 38 #[.int .u32 (n:Int),.slice hA H.length hcap,.slice eA env.length ecap,.slice iA ins.length icap,.int .i64 st] (w.heap.size+1) (by simp))
  have HB1:=Lib.hid hb1
  have HRW:=Lib.hid (fun (W:World) (h:Below w.heap.size w W)=>rowA_any C.vars _ _ C n W (hC.below h) hl hn)
  have HRH:=Lib.hid (fun (W:World) (h:Below w.heap.size w W)=>rowIs_hist (hH.below h))
  have HRE:=Lib.hid (fun (W:World) (h:Below w.heap.size w W)=>rowIs_ints (rows_of_nums (hE.below h)))
  have HRI:=Lib.hid (fun (W:World) (h:Below w.heap.size w W)=>rowIs_ints (hI.below h))
  have HLT:=Lib.hid hH.lt
  have HHL:=Lib.hid hHl
  have HEL:=Lib.hid hEl
  have HIL:=Lib.hid hIl
  have HCL:=Lib.hid hl
  clear hC hH hE hI hi hz0 hz1 hz2 ji jz0 jz1 jz2 ki kz0 kz1 kz2 hHl hEl hIl hb1 hhcap hecap hicap hl hn
  go_enter Tryz.func27,Tryz.ntmps27
  go_wp2_with fail
  generalize (w.alloc (chBox C.vars (.slice sA C.sts.length scap) (.slice tA C.trs.length tcap))).alloc (.cells #[.int .u32 (n:Int),.slice hA H.length hcap,.slice eA env.length ecap,.slice iA ins.length icap,.int .i64 st] 38)=w1 at *
  have hwl:w.heap.size+1 < w1.heap.size:=HR1.out.lt
  obtain ⟨⟨c0,c1,c2⟩,-⟩:=HX1.out.drew.facts3
  have r0:=HR1.out.drew.cell 0
  have r4:=HR1.out.drew.cell 4
  refine anyD_start (fun W=>(W.cell? ⟨w.heap.size,0,none⟩=some (.int .i64 C.vars)∧W.cell? ⟨w.heap.size,1,none⟩=some (.slice sA C.sts.length scap)∧W.cell? ⟨w.heap.size,2,none⟩=some (.slice tA C.trs.length tcap))∧W.cell? ⟨w.heap.size+1,0,none⟩=some (.int .u32 (n:Int))∧W.cell? ⟨w.heap.size+1,4,none⟩=some (.int .i64 st)) (fun i=>[].contains i) (by kernel_rfl) ?_
  try simp only [Act.put,sx]
  refine anyD_l 0 (.agg #[.int .i64 C.vars,.slice sA C.sts.length scap,.slice tA C.trs.length tcap]) (⟨⟨c0,c1,c2⟩,r0,r4⟩) ?_
  try simp only [Act.put,sx]
  refine anyD_l 1 (.agg #[.int .i64 C.vars,.slice sA C.sts.length scap,.slice tA C.trs.length tcap]) (⟨⟨c0,c1,c2⟩,r0,r4⟩) ?_
  try simp only [Act.put,sx]
  refine anyD_t 2 (.pointer (some ⟨w.heap.size+1,0,none⟩)) ?_
  try simp only [Act.put,sx]
  refine anyD_l 3 (.int .u32 (n:Int)) (⟨⟨c0,c1,c2⟩,r0,r4⟩) ?_
  try simp only [Act.put,sx]
  refine anyD_t 5 (.pointer (some ⟨w.heap.size+1,4,none⟩)) ?_
  try simp only [Act.put,sx]
  refine anyD_l 6 (.int .i64 st) (⟨⟨c0,c1,c2⟩,r0,r4⟩) ?_
  try simp only [Act.put,sx]
  refine anyD_one (i:=4) rfl rfl (by kernel_rfl) (fun K HK=>?_)
  go_simp
  refine (HRW.out w1.drew HB1.out.drew).mono ?_
  rintro e w2 ⟨hb2,ba,rfl,hba,hT2⟩
  have h1s:w.heap.size≤w1.heap.size:=HB1.out.size
  have HB2:Hid (Below w.heap.size w w2):=Lib.hid (HB1.out.drew.trans (hb2.mono h1s))
  have HX2:=Lib.hid (HX1.out.drew.below hb2 HX1.out.drew.lt)
  have HR2:=Lib.hid (HR1.out.drew.below hb2 HR1.out.drew.lt)
  have HT2:=Lib.hid hT2
  have hba2:w.heap.size≤ba:=Nat.le_trans h1s hba
  have hw2:w.heap.size+1 < w2.heap.size:=HR2.out.lt
  clear hb2 hT2 c0 c1 c2 r0 r4
  obtain ⟨⟨c0,c1,c2⟩,-⟩:=HX2.out.facts3
  have r0:=HR2.out.cell 0
  have r4:=HR2.out.cell 4
  go_simp
  refine HK.out _ _ (fun _ hS=>⟨⟨c0,c1,c2⟩,r0,r4⟩) ?_
  clear HK K
  try simp only [Act.put,sx]
  refine anyD_t 7 (.agg #[.int .i64 C.vars,.slice sA C.sts.length scap,.slice tA C.trs.length tcap,.slice (some ⟨ba,0,none⟩) C.sts.length C.sts.length,.slice none 0 0,.slice none 0 0,.slice none 0 0,.int .i64 st,.slice none 0 0,.int .i64 40]) ?_
  try simp only [Act.put,sx]
  have HX3:=Lib.hid (HX2.out.alloc (.cells #[.int .i64 C.vars,.slice sA C.sts.length scap,.slice tA C.trs.length tcap,.slice (some ⟨ba,0,none⟩) C.sts.length C.sts.length,.slice none 0 0,.slice none 0 0,.slice none 0 0,.int .i64 st,.slice none 0 0,.int .i64 40] 50))
  have HR3:=Lib.hid (HR2.out.alloc (.cells #[.int .i64 C.vars,.slice sA C.sts.length scap,.slice tA C.trs.length tcap,.slice (some ⟨ba,0,none⟩) C.sts.length C.sts.length,.slice none 0 0,.slice none 0 0,.slice none 0 0,.int .i64 st,.slice none 0 0,.int .i64 40] 50))
  obtain ⟨⟨z0,z1,z2⟩,-⟩:=HX3.out.facts3
  have t0:=HR3.out.cell 0
  have t4:=HR3.out.cell 4
  refine anyD_one (i:=8) rfl rfl (by kernel_rfl) (fun K HK=>?_)
  go_simp
  go_simp
  refine HK.out _ _ (fun _ hS=>⟨⟨z0,z1,z2⟩,t0,t4⟩) ?_
  clear HK K
  try simp only [Act.put,sx]
  refine anyD_one (i:=9) rfl rfl (by kernel_rfl) (fun K HK=>?_)
  go_simp
  refine HK.out _ _ (fun _ hS=>⟨⟨z0,z1,z2⟩,t0,t4⟩) ?_
  clear HK K
  try simp only [Act.put,sx]
  refine anyD_done (by kernel_rfl) ?_
  clear z0 z1 z2 t0 t4
  have hbl:ba < w2.heap.size:=by
    obtain ⟨cur,h1,_⟩:=HT2.out
    exact h1.lt
  have HOF3:Hid (OfAt w w2.heap.size ba (.slice sA C.sts.length scap) (.slice tA C.trs.length tcap) C n st (w2.alloc (.cells #[.int .i64 C.vars,.slice sA C.sts.length scap,.slice tA C.trs.length tcap,.slice (some ⟨ba,0,none⟩) C.sts.length C.sts.length,.slice none 0 0,.slice none 0 0,.slice none 0 0,.int .i64 st,.slice none 0 0,.int .i64 40] 50)) (.slice none 0 0) []) :=
    Lib.hid ⟨HB2.out.alloc HB2.out.size _,⟨HB2.out.size,hba2⟩,by omega,Blk.new _ _ _,HT2.out.below (below_box w2 _),World.ownsRow_nil _ _ _ _⟩
  obtain ⟨g,hg⟩:∃ g,w2.heap.size=g:=⟨_,rfl⟩
  have hwg:w.heap.size+1 < g:=by omega
  rw [hg] at HOF3 ⊢
  generalize w2.alloc (.cells #[.int .i64 C.vars,.slice sA C.sts.length scap,.slice tA C.trs.length tcap,.slice (some ⟨ba,0,none⟩) C.sts.length C.sts.length,.slice none 0 0,.slice none 0 0,.slice none 0 0,.int .i64 st,.slice none 0 0,.int .i64 40] 50)=w3 at *
  clear HX2 HR2 HT2 HB2 HX1 HR1 HX0 c0 c1 c2 r0 r4 hg hbl hw2
  go_wp2_with fail
  have y4:=HOF3.out.drew.blk.cell 4
  have r1:=HR3.out.drew.cell 1
  refine anyD_start (fun W=>W.cell? ⟨g,4,none⟩=some (.slice none 0 0)∧W.cell? ⟨w.heap.size+1,1,none⟩=some (.slice hA H.length hcap)) (fun i=>[10].contains i) (by kernel_rfl) ?_
  try simp only [Act.put,sx]
  refine anyD_t 0 (.pointer (some ⟨g,0,none⟩)) ?_
  try simp only [Act.put,sx]
  refine anyD_t 1 (.pointer (some ⟨g,0,none⟩)) ?_
  try simp only [Act.put,sx]
  refine anyD_t 2 (.pointer (some ⟨g,0,none⟩)) ?_
  try simp only [Act.put,sx]
  refine anyD_t 3 (.pointer (some ⟨g,4,none⟩)) ?_
  try simp only [Act.put,sx]
  refine anyD_l 4 (.slice none 0 0) (⟨y4,r1⟩) ?_
  try simp only [Act.put,sx]
  refine anyD_t 5 (.pointer (some ⟨w.heap.size+1,1,none⟩)) ?_
  try simp only [Act.put,sx]
  refine anyD_l 6 (.slice hA H.length hcap) (⟨y4,r1⟩) ?_
  try simp only [Act.put,sx]
  refine anyD_one (i:=7) rfl rfl (by kernel_rfl) (fun K HK=>?_)
  have HRH3:=Lib.hid (HRH.out w3.drew HOF3.out.drew.below)
  refine wp_append_row _ _ 34 rfl w.heap.size 33 iU (.int .u32 0) 1 4 Tryz.underlying34 HI.out HZ0.out HZ1.out HZ2.out rfl (by decide) _ 0 [] rfl (World.ownsRow_nil _ _ _ _) _ H.length (H.flatMap u32Cells) rfl HRH3.out (Below.refl _ _) (by have:=HHL.out; unfold maxLen; omega) (by have:=HHL.out; omega) HOF3.out.drew.lt ?_
  intro v5 w5 hown5 hgrow5
  rw [Nat.zero_add,List.nil_append] at hown5
  obtain ⟨A5,cap5,rfl⟩:=own_slice hown5
  have HOF5:Hid (OfAt w g ba (.slice sA C.sts.length scap) (.slice tA C.trs.length tcap) C n st (w5.setCell ⟨g,4,none⟩ (.slice A5 H.length cap5)) (.slice A5 H.length cap5) H):=Lib.hid (by
    have:=HOF3.out.drew.grow (L:=H) (vh':=.slice A5 H.length cap5) hgrow5 (by simpa using hown5)
    rwa [List.nil_append] at this)
  have HX5:Hid (Blk w5 w.heap.size 25 #[.int .i64 C.vars,.slice sA C.sts.length scap,.slice tA C.trs.length tcap]):=Lib.hid (HX3.out.drew.grown hgrow5 (by intro h; cases h))
  have HR5:Hid (Blk w5 (w.heap.size+1) 38 #[.int .u32 (n:Int),.slice hA H.length hcap,.slice eA env.length ecap,.slice iA ins.length icap,.int .i64 st]):=Lib.hid (HR3.out.drew.grown hgrow5 (by intro h; cases h))
  have HG5:=Lib.hid (HOF3.out.drew.blk.grown hgrow5 (by intro h; cases h))
  have s4:=HG5.out.cell 4
  have f4:=HG5.out.frozen 4
  have s1:=HR5.out.cell 1
  clear hown5 hgrow5 y4 r1
  refine HK.out _ _ (fun _ hS=>⟨s4,s1⟩) ?_
  clear HK K
  try simp only [Act.put,sx]
  refine anyD_t 8 (.pointer (some ⟨g,0,none⟩)) ?_
  try simp only [Act.put,sx]
  refine anyD_t 9 (.pointer (some ⟨g,4,none⟩)) ?_
  try simp only [Act.put,sx]
  refine anyD_one (i:=10) rfl rfl (by kernel_rfl) (fun K HK=>?_)
  go_simp
  go_simp
  refine HK.out _ _ (fun h=>absurd h (by decide)) ?_
  clear HK K
  try simp only [Act.put,sx]
  refine anyD_done (by kernel_rfl) ?_
  have HX6:=Lib.hid (HX5.out.set_ne (g':=g) (by omega) 4 (.slice A5 H.length cap5))
  have HR6:=Lib.hid (HR5.out.set_ne (g':=g) (by omega) 4 (.slice A5 H.length cap5))
  clear s4 f4 s1 HG5 HX5 HR5 HX3 HR3 HOF3 HRW
  generalize w5.setCell ⟨g,4,none⟩ (.slice A5 H.length cap5)=w6 at *
  obtain ⟨m,hm⟩:∃ m,C.sts.length - H.length=m:=⟨_,rfl⟩
  have HM:=Lib.hid hm
  go_wp2_with fail
  go_loopw [] (fun wr=>∃ (j:Nat) (vh:Value),j≤m∧Hid (OfAt w g ba (.slice sA C.sts.length scap) (.slice tA C.trs.length tcap) C n st wr vh (H ++ List.replicate j 0))∧Hid (Blk wr w.heap.size 25 #[.int .i64 C.vars,.slice sA C.sts.length scap,.slice tA C.trs.length tcap])∧Hid (Blk wr (w.heap.size+1) 38 #[.int .u32 (n:Int),.slice hA H.length hcap,.slice eA env.length ecap,.slice iA ins.length icap,.int .i64 st])) (fun wr=>C.sts.length - lenOf4 wr g)
  case atStart=>exact ⟨0,_,Nat.zero_le _,Lib.hid (by rw [List.replicate_zero,List.append_nil]; exact HOF5.out),HX6,HR6⟩
  case round =>
    clear HOF5 HX6 HR6
    obtain ⟨j,vh,hj,HO,HX,HR⟩:=hrel
    obtain ⟨wo,rfl⟩:∃ wo:World,wo=wr:=⟨_,rfl⟩
    obtain ⟨q,hq⟩:∃ q,(H ++ List.replicate j 0).length=q:=⟨_,rfl⟩
    have HQJ:Hid (q=H.length+j):=Lib.hid (by rw [← hq]; simp)
    have hown:=HO.out.own
    rw [hq] at hown
    obtain ⟨A7,cap7,rfl⟩:=own_slice hown
    have HOWN:=Lib.hid (own_below hown (Below.refl _ _).drew)
    have hlen0:lenOf4 wo g=q:=by
      unfold lenOf4
      rw [HO.out.blk.cell 4]
      rfl
    have HLEN:=Lib.hid hlen0
    have HQ:=Lib.hid hq
    have HOD:=Lib.hid HO.out.drew
    have HXD:=Lib.hid HX.out.drew
    have HRD:=Lib.hid HR.out.drew
    clear hown hlen0 HO HX HR hq
    go_wp2_with fail
    refine anyD_start (fun W=>W.cell? ⟨g,4,none⟩=some (.slice A7 q cap7)∧W.cell? ⟨w.heap.size,1,none⟩=some (.slice sA C.sts.length scap)) (fun i=>[].contains i) (by kernel_rfl) ?_
    try simp only [Act.put,sx]
    generalize hwd:wo.drew=w7 at *
    have y4:=HOD.out.blk.cell 4
    have c1:=HXD.out.cell 1
    refine anyD_t 0 (.pointer (some ⟨g,0,none⟩)) ?_
    try simp only [Act.put,sx]
    refine anyD_t 1 (.pointer (some ⟨g,0,none⟩)) ?_
    try simp only [Act.put,sx]
    refine anyD_t 2 (.pointer (some ⟨g,4,none⟩)) ?_
    try simp only [Act.put,sx]
    refine anyD_l 3 (.slice A7 q cap7) (⟨y4,c1⟩) ?_
    try simp only [Act.put,sx]
    refine anyD_t 4 (.int .i64 (q:Int)) ?_
    try simp only [Act.put,sx]
    refine anyD_t 5 (.pointer (some ⟨w.heap.size,1,none⟩)) ?_
    try simp only [Act.put,sx]
    refine anyD_l 6 (.slice sA C.sts.length scap) (⟨y4,c1⟩) ?_
    try simp only [Act.put,sx]
    refine anyD_t 7 (.int .i64 (C.sts.length:Int)) ?_
    try simp only [Act.put,sx]
    by_cases hlt:q < C.sts.length
    · have hlb:decide ((q:Int) < (C.sts.length:Int))=true:=decide_eq_true (by omega)
      refine anyD_t 8 (.bool true) ?_
      try simp only [Act.put,sx]
      refine anyD_done (by kernel_rfl) ?_
      have HOA:=Lib.hid (HOD.out.after (below_box w7 (.cells #[.int .u32 0] 33)))
      have HXA:=Lib.hid (HXD.out.alloc (.cells #[.int .u32 0] 33))
      have HRA:=Lib.hid (HRD.out.alloc (.cells #[.int .u32 0] 33))
      have HOWA:=Lib.hid (own_below HOWN.out (below_box w7 (.cells #[.int .u32 0] 33)))
      have HR0:Hid (RowIs (w7.alloc (.cells #[.int .u32 0] 33)) 1 (.slice (some ⟨w7.heap.size,0,none⟩) 1 1) 1 [.int .u32 0]):=Lib.hid (rowU_one w7 0)
      have x4:=HOA.out.blk.cell 4
      clear c1
      go_wp2_with (at_builtin; refine wpList_append_row3 rfl _ _ 34 rfl w.heap.size 33 iU (.int .u32 0) 1 4 Tryz.underlying34 HI.out HZ0.out HZ1.out HZ2.out rfl (by decide) _ q _ rfl HOWA.out _ 1 [.int .u32 0] rfl HR0.out (Below.refl _ _) ?c3 ?c4 ?c5 ?_)
      case c3=>have:=HHL.out; have:=HCL.out; have:=HQJ.out; unfold maxLen; omega
      case c4=>have:=HHL.out; have:=HCL.out; omega
      case c5=>exact HOA.out.lt
      intro v8 w8 hown8 hgrow8 h8
      obtain ⟨A8,cap8,rfl⟩:=own_slice hown8
      have HO8:Hid (OfAt w g ba (.slice sA C.sts.length scap) (.slice tA C.trs.length tcap) C n st (w8.setCell ⟨g,4,none⟩ (.slice A8 (q+1) cap8)) (.slice A8 (q+1) cap8) (H ++ List.replicate (j+1) 0)):=Lib.hid (by
        have:=HOA.out.grow (L:=[0]) (vh':=.slice A8 (q+1) cap8) hgrow8 (by rw [HQ.out,List.flatMap_append,List.append_assoc]; exact hown8)
        rwa [List.append_assoc,← List.replicate_succ'] at this)
      have HX8:=Lib.hid ((blk_grown HXA.out HOWA.out (by decide) hgrow8).set_ne (g':=g) (by omega) 4 (.slice A8 (q+1) cap8))
      have HR8:=Lib.hid ((blk_grown HRA.out HOWA.out (by decide) hgrow8).set_ne (g':=g) (by omega) 4 (.slice A8 (q+1) cap8))
      have HG8:=Lib.hid (blk_grown HOA.out.blk HOWA.out (by decide) hgrow8)
      have z4:=HG8.out.cell 4
      have f4:=HG8.out.frozen 4
      have HL8:Hid (lenOf4 (w8.setCell ⟨g,4,none⟩ (.slice A8 (q+1) cap8)) g=q+1):=Lib.hid (by
        unfold lenOf4
        rw [HO8.out.blk.cell 4]
        rfl)
      clear hown8 hgrow8 h8 x4 y4
      go_wp2_with fail
      go_roundw
      case rel=>exact ⟨j+1,_,by have:=HM.out; have:=HQJ.out; omega,HO8,HX8,HR8⟩
      case measure=>rw [HL8.out,HLEN.out]; omega
    · have hlb:decide ((q:Int) < (C.sts.length:Int))=false:=decide_eq_false (by omega)
      refine anyD_t 8 (.bool false) ?_
      try simp only [Act.put,sx]
      refine anyD_done (by kernel_rfl) ?_
      clear y4 c1 HLEN
      obtain rfl:j=m:=by have:=HM.out; have:=HQJ.out; omega
      have hsl:w.heap.size+1 < w7.heap.size:=HRD.out.lt
      have HOD9:=Lib.hid HOD.out.drew
      have HRD9:=Lib.hid HRD.out.drew
      have HOW9:=Lib.hid (own_below HOWN.out (Below.refl _ _).drew)
      clear HOD HRD HXD HOWN
      go_wp2_with fail
      refine anyD_start (fun W=>W.cell? ⟨g,5,none⟩=some (.slice none 0 0)∧W.cell? ⟨w.heap.size+1,2,none⟩=some (.slice eA env.length ecap)) (fun i=>[10].contains i) (by kernel_rfl) ?_
      try simp only [Act.put,sx]
      have hs9:w7.drew.heap.size=w7.heap.size:=rfl
      generalize w7.drew=w9 at *
      have y5:=HOD9.out.blk.cell 5
      have r2:=HRD9.out.cell 2
      refine anyD_t 0 (.pointer (some ⟨g,0,none⟩)) ?_
      try simp only [Act.put,sx]
      refine anyD_t 1 (.pointer (some ⟨g,0,none⟩)) ?_
      try simp only [Act.put,sx]
      refine anyD_t 2 (.pointer (some ⟨g,0,none⟩)) ?_
      try simp only [Act.put,sx]
      refine anyD_t 3 (.pointer (some ⟨g,5,none⟩)) ?_
      try simp only [Act.put,sx]
      refine anyD_l 4 (.slice none 0 0) (⟨y5,r2⟩) ?_
      try simp only [Act.put,sx]
      refine anyD_t 5 (.pointer (some ⟨w.heap.size+1,2,none⟩)) ?_
      try simp only [Act.put,sx]
      refine anyD_l 6 (.slice eA env.length ecap) (⟨y5,r2⟩) ?_
      try simp only [Act.put,sx]
      refine anyD_one (i:=7) rfl rfl (by kernel_rfl) (fun K HK=>?_)
      have HRE9:=Lib.hid (HRE.out w9 HOD9.out.below)
      refine wp_append_row _ _ 35 rfl w.heap.size 2 iL (.int .i64 0) 1 8 Tryz.underlying35 JI.out JZ0.out JZ1.out JZ2.out rfl (by decide) _ 0 [] rfl (World.ownsRow_nil _ _ _ _) _ env.length (intVals env) rfl HRE9.out (Below.refl _ _) (by have:=HEL.out; unfold maxLen; omega) (by have:=HEL.out; omega) HOD9.out.lt ?_
      intro v10 w10 hown10 hgrow10
      rw [Nat.zero_add,List.nil_append] at hown10
      obtain ⟨A10,cap10,rfl⟩:=own_slice hown10
      have hb10:Below w9.heap.size w9 w10:=(Below.refl _ _).grown hgrow10 (Nat.le_refl _) (fun k hk=>by cases hk)
      have HOD10:=Lib.hid (HOD9.out.after hb10)
      have HRD10:=Lib.hid (HRD9.out.below hb10 HRD9.out.lt)
      have HOW10:=Lib.hid (own_below HOW9.out hb10)
      have HEW10:=Lib.hid hown10
      have s5:=HOD10.out.blk.cell 5
      have f5:=HOD10.out.blk.frozen 5
      have s2:=HRD10.out.cell 2
      clear hown10 hgrow10 hb10 y5 r2 HOD9 HRD9 HOW9 hs9
      refine HK.out _ _ (fun _ hS=>⟨s5,s2⟩) ?_
      clear HK K
      try simp only [Act.put,sx]
      refine anyD_t 8 (.pointer (some ⟨g,0,none⟩)) ?_
      try simp only [Act.put,sx]
      refine anyD_t 9 (.pointer (some ⟨g,5,none⟩)) ?_
      try simp only [Act.put,sx]
      refine anyD_one (i:=10) rfl rfl (by kernel_rfl) (fun K HK=>?_)
      go_simp
      go_simp
      refine HK.out _ _ (fun h=>absurd h (by decide)) ?_
      clear HK K
      try simp only [Act.put,sx]
      refine anyD_done (by kernel_rfl) ?_
      have HB11:=Lib.hid (HOD10.out.below.setCell (p:=⟨g,5,none⟩) HOD10.out.ge.1 (.slice A10 env.length cap10)).drew
      have HK11:=Lib.hid (HOD10.out.blk.set_ 5 (.slice A10 env.length cap10)).drew
      have HT11:Hid (TruAt (w10.setCell ⟨g,5,none⟩ (.slice A10 env.length cap10)).drew ba C.sts.length (bitN n)):=Lib.hid ((HOD10.out.act.apart HOD10.out.ne 5 _).below (Below.refl _ _).drew)
      have HRD11:=Lib.hid (HRD10.out.set_ne (g':=g) (by omega) 5 (.slice A10 env.length cap10)).drew
      have HOW11:=Lib.hid (own_below (own_apart HOW10.out HOD10.out.blk (by decide) 5 (.slice A10 env.length cap10)) (Below.refl _ _).drew)
      have HEW11:=Lib.hid (own_below (own_apart HEW10.out HOD10.out.blk (by decide) 5 (.slice A10 env.length cap10)) (Below.refl _ _).drew)
      have HGE:=Lib.hid HOD10.out.ge
      have HNE:=Lib.hid HOD10.out.ne
      clear s5 f5 s2 HOD10 HRD10 HOW10 HEW10
      go_wp2_with fail
      refine anyD_start (fun W=>W.cell? ⟨g,6,none⟩=some (.slice none 0 0)∧W.cell? ⟨w.heap.size+1,3,none⟩=some (.slice iA ins.length icap)) (fun i=>[10].contains i) (by kernel_rfl) ?_
      try simp only [Act.put,sx]
      generalize (w10.setCell ⟨g,5,none⟩ (.slice A10 env.length cap10)).drew=w11 at *
      have y6:=HK11.out.cell 6
      have r3:=HRD11.out.cell 3
      refine anyD_t 0 (.pointer (some ⟨g,0,none⟩)) ?_
      try simp only [Act.put,sx]
      refine anyD_t 1 (.pointer (some ⟨g,0,none⟩)) ?_
      try simp only [Act.put,sx]
      refine anyD_t 2 (.pointer (some ⟨g,0,none⟩)) ?_
      try simp only [Act.put,sx]
      refine anyD_t 3 (.pointer (some ⟨g,6,none⟩)) ?_
      try simp only [Act.put,sx]
      refine anyD_l 4 (.slice none 0 0) (⟨y6,r3⟩) ?_
      try simp only [Act.put,sx]
      refine anyD_t 5 (.pointer (some ⟨w.heap.size+1,3,none⟩)) ?_
      try simp only [Act.put,sx]
      refine anyD_l 6 (.slice iA ins.length icap) (⟨y6,r3⟩) ?_
      try simp only [Act.put,sx]
      refine anyD_one (i:=7) rfl rfl (by kernel_rfl) (fun K HK=>?_)
      have HRI11:=Lib.hid (HRI.out w11 HB11.out)
      refine wp_append_row _ _ 36 rfl w.heap.size 3 iI (.int .i64 0) 1 8 Tryz.underlying36 KI.out KZ0.out KZ1.out KZ2.out rfl (by decide) _ 0 [] rfl (World.ownsRow_nil _ _ _ _) _ ins.length (intVals ins) rfl HRI11.out (Below.refl _ _) (by have:=HIL.out; unfold maxLen; omega) (by have:=HIL.out; omega) HB11.out.size ?_
      intro v12 w12 hown12 hgrow12
      rw [Nat.zero_add,List.nil_append] at hown12
      obtain ⟨A12,cap12,rfl⟩:=own_slice hown12
      have hb12:Below w11.heap.size w11 w12:=(Below.refl _ _).grown hgrow12 (Nat.le_refl _) (fun k hk=>by cases hk)
      have HB12:=Lib.hid (HB11.out.trans (hb12.mono HB11.out.size))
      have HK12:=Lib.hid (HK11.out.below hb12 HK11.out.lt)
      have HT12:=Lib.hid (HT11.out.below hb12)
      have HRD12:=Lib.hid (HRD11.out.below hb12 HRD11.out.lt)
      have HOW12:=Lib.hid (own_below HOW11.out hb12)
      have HEW12:=Lib.hid (own_below HEW11.out hb12)
      have HIW12:=Lib.hid hown12
      have s6:=HK12.out.cell 6
      have f6:=HK12.out.frozen 6
      have s3:=HRD12.out.cell 3
      clear hown12 hgrow12 hb12 y6 r3 HB11 HK11 HT11 HRD11 HOW11 HEW11
      refine HK.out _ _ (fun _ hS=>⟨s6,s3⟩) ?_
      clear HK K
      try simp only [Act.put,sx]
      refine anyD_t 8 (.pointer (some ⟨g,0,none⟩)) ?_
      try simp only [Act.put,sx]
      refine anyD_t 9 (.pointer (some ⟨g,6,none⟩)) ?_
      try simp only [Act.put,sx]
      refine anyD_one (i:=10) rfl rfl (by kernel_rfl) (fun K HK=>?_)
      go_simp
      go_simp
      refine HK.out _ _ (fun h=>absurd h (by decide)) ?_
      clear HK K
      try simp only [Act.put,sx]
      refine anyD_done (by kernel_rfl) ?_
      go_wp2_with fail
      go_ret
      have hrow:RwAt w.heap.size w12 (.slice A7 q cap7) (.slice A10 env.length cap10) (.slice A12 ins.length cap12) (.slice none 0 0) ⟨bitN n,padH C.sts.length H,env,ins,st,[]⟩:=by
        have hpl:padH C.sts.length H=H ++ List.replicate j 0:=by unfold padH; rw [HM.out]
        refine ⟨?_,env_of_own HEW12.out rfl,HIW12.out,World.ownsRow_nil _ _ _ _⟩
        show OwnHist w.heap.size w12 _ (padH C.sts.length H)
        rw [hpl]
        refine hist_of_own (by rw [HQ.out]; exact HOW12.out) (fun x hx=>?_)
        rcases List.mem_append.1 hx with hx | hx
        · exact HLT.out x hx
        · rw [List.eq_of_mem_replicate hx]
          decide
      exact ⟨g,ba,_,_,_,rfl,HB12.out.setCell (p:=⟨g,6,none⟩) HGE.out.1 _,HGE.out,HK12.out.set_ 6 (.slice A12 ins.length cap12),HT12.out.apart HNE.out 6 _,hrow.apart HK12.out (by decide) (by decide) (by decide) (by decide) 6 _⟩
end Go.Proofs.YtfgkcjmeiabdjaaGreatDoor
/- The contracts of the document's Ints, Outs (rows at most a million long), Same and Run. -/
namespace Go.Proofs.YtfgkcjmeiabdjaaGreatDoor
open Go.ChangeShapes Go.WideShapes Go.ChangeAt Go.RowKit
set_option linter.unusedVariables false

set_option maxHeartbeats 4000000 in
set_option maxRecDepth 100000 in
theorem ints_same2 (v u:Value) (L:List Int) (w:World) (hv:ListAt w v L) (hu:ListAt w u L) (hl:L.length≤1000000) :
    Calls Tryz.prog 32 #[v,u] w fun e w'=>e=.returned (.bool true)∧Below w.heap.size w w':=by
  obtain ⟨A,cap,rfl,hcap,he⟩:=hv
  obtain ⟨A',cap',rfl,hcap',he'⟩:=hu
  have HE:=Lib.hid he
  have HE':=Lib.hid he'
  clear he he'
  go_enter Tryz.func32,Tryz.ntmps32
  go_wp2_with fail
  go_loopw [5] (fun i wr=>∃ k:Nat,k≤L.length∧i=.int .i64 (k:Int)∧Below w.heap.size w wr) (fun i _=>L.length - (intOf i).toNat)
  case atStart=>exact ⟨0,Nat.zero_le _,rfl,Below.refl _ _⟩
  case round =>
    obtain ⟨k,hk,rfl,hb⟩:=hrel
    obtain ⟨wo,rfl⟩:∃ wo:World,wo=wr:=⟨_,rfl⟩
    by_cases hlt:k < L.length
    · obtain ⟨b,o,rfl,hbl,hc⟩:=HE.out k _ (List.getElem?_eq_getElem hlt)
      obtain ⟨b',o',rfl,hbl',hc'⟩:=HE'.out k _ (List.getElem?_eq_getElem hlt)
      have c0:wo.cell? ⟨b,o+k,none⟩=some (.int .i64 L[k]):=by have:=IntAt.keeps w wo b _ _ hb hbl hc; rwa [Nat.mul_one] at this
      have c0':wo.cell? ⟨b',o'+k,none⟩=some (.int .i64 L[k]):=by have:=IntAt.keeps w wo b' _ _ hb hbl' hc'; rwa [Nat.mul_one] at this
      generalize L[k]=x at *
      have HB:=Lib.hid hb
      have hxx:(x != x)=false:=by simp
      clear hc hc' hb
      go_wp2_with fail
      go_quiet (fail)
      go_wp2
      go_roundw
      case rel=>exact ⟨k+1,by omega,by go_num,below_drewN HB.out _⟩
      case measure=>simp [intOf]; omega
    · obtain rfl:k=L.length:=by omega
      go_wp2_with fail
      go_ret
      exact ⟨rfl,hb⟩
set_option maxHeartbeats 4000000 in
set_option maxRecDepth 100000 in
theorem outs_same2 (v u:Value) (L:List Ou) (w:World) (hv:OutsAt w v L) (hu:OutsAt w u L) (hl:L.length≤1000000) :
    Calls Tryz.prog 13 #[v,u] w fun e w'=>e=.returned (.bool true)∧Below w.heap.size w w':=by
  obtain ⟨A,cap,rfl,hcap,he⟩:=hv
  obtain ⟨A',cap',rfl,hcap',he'⟩:=hu
  have HE:=Lib.hid he
  have HE':=Lib.hid he'
  clear he he'
  go_enter Tryz.func13,Tryz.ntmps13
  go_wp2_with fail
  go_loopw [5] (fun i wr=>∃ k:Nat,k≤L.length∧i=.int .i64 (k:Int)∧Below w.heap.size w wr) (fun i _=>L.length - (intOf i).toNat)
  case atStart=>exact ⟨0,Nat.zero_le _,rfl,Below.refl _ _⟩
  case round =>
    obtain ⟨k,hk,rfl,hb⟩:=hrel
    obtain ⟨wo,rfl⟩:∃ wo:World,wo=wr:=⟨_,rfl⟩
    by_cases hlt:k < L.length
    · obtain ⟨b,o,rfl,hbl,hc⟩:=HE.out k _ (List.getElem?_eq_getElem hlt)
      obtain ⟨b',o',rfl,hbl',hc'⟩:=HE'.out k _ (List.getElem?_eq_getElem hlt)
      obtain ⟨c0,c1,c2,c3⟩:=OuAt.keeps w wo b _ _ hb hbl hc
      obtain ⟨d0,d1,d2,d3⟩:=OuAt.keeps w wo b' _ _ hb hbl' hc'
      generalize L[k]=x at *
      obtain ⟨xa,xb,xc,xd⟩:=x
      simp only at c0 c1 c2 c3 d0 d1 d2 d3
      have HB:=Lib.hid hb
      have hne:=fun W=>neqOu_same xa xb xc xd W
      clear hc hc' hb
      go_wp2_with fail
      go_quiet (fail)
      go_wp2
      go_roundw
      case rel=>exact ⟨k+1,by omega,by go_num,below_drewN HB.out _⟩
      case measure=>simp [intOf]; omega
    · obtain rfl:k=L.length:=by omega
      go_wp2_with fail
      go_ret
      exact ⟨rfl,hb⟩
set_option maxHeartbeats 4000000 in
set_option maxRecDepth 100000 in
theorem same12_any (va vb:Value) (n:Nat) (X:Se) (w:World) (ha:RunAt w n va X) (hb:RunAt w n vb X) (hHl:X.hist.length≤1000) (hEl:X.env.length≤1000) (hIl:X.ins.length≤1000000) :
    Calls Tryz.prog 11 #[va,vb] w fun e w'=>e=.returned (.bool true)∧Below w.heap.size w w':=by
  obtain ⟨av,H,E,I,st,O⟩:=X
  obtain ⟨vh,ve,vi,rfl,h1,h2,h3⟩:=ha
  obtain ⟨uh,ue,ui,rfl,k1,k2,k3⟩:=hb
  dsimp only at h1 h2 h3 k1 k2 k3 hHl hEl hIl ⊢
  obtain ⟨hA,hcap,rfl,hhe⟩:=RowsAt.slice h1
  obtain ⟨eA,ecap,rfl,hee⟩:=RowsAt.slice (rows_of_nums h2)
  obtain ⟨iA,icap,rfl,hie⟩:=RowsAt.slice h3
  obtain ⟨hA2,hcap2,rfl,khe⟩:=RowsAt.slice k1
  obtain ⟨eA2,ecap2,rfl,kee⟩:=RowsAt.slice (rows_of_nums k2)
  obtain ⟨iA2,icap2,rfl,kie⟩:=RowsAt.slice k3
  have HH:=Lib.hid h1
  have HK:=Lib.hid k1
  have HNS:=Lib.hid (fun (W:World) (h:Below w.heap.size w W)=>nums_same _ _ E W (h2.below h) (k2.below h) hEl)
  have HIS:=Lib.hid (fun (W:World) (h:Below w.heap.size w W)=>ints_same2 _ _ I W (h3.below h) (k3.below h) hIl)
  obtain ⟨N,hN⟩:∃ N:Int,((bset av n:Nat):Int)=N:=⟨_,rfl⟩
  rw [hN]
  have hnn:(N != N)=false:=by simp
  have hss:(st != st)=false:=by simp
  have hb0:Below w.heap.size w ((w.alloc (.cells #[.int .u32 N,.slice hA H.length hcap,.slice eA E.length ecap,.slice iA I.length icap,.int .i64 st] 38)).alloc (.cells #[.int .u32 N,.slice hA2 H.length hcap2,.slice eA2 E.length ecap2,.slice iA2 I.length icap2,.int .i64 st] 38)):=(below_box w _).alloc (by simp) _
  have hx0:=(Blk.new w 38 #[.int .u32 N,.slice hA H.length hcap,.slice eA E.length ecap,.slice iA I.length icap,.int .i64 st]).alloc (.cells #[.int .u32 N,.slice hA2 H.length hcap2,.slice eA2 E.length ecap2,.slice iA2 I.length icap2,.int .i64 st] 38)
  have hy0:=Blk.new_at (w.alloc (.cells #[.int .u32 N,.slice hA H.length hcap,.slice eA E.length ecap,.slice iA I.length icap,.int .i64 st] 38)) 38 #[.int .u32 N,.slice hA2 H.length hcap2,.slice eA2 E.length ecap2,.slice iA2 I.length icap2,.int .i64 st] (w.heap.size+1) (by simp)
  have HB0:=Lib.hid hb0
  have HX0:=Lib.hid hx0
  have HY0:=Lib.hid hy0
  clear h1 h2 h3 k1 k2 k3 hN hb0 hx0 hy0 hhe hee hie khe kee kie
  go_enter Tryz.func11,Tryz.ntmps11
  go_wp2_with fail
  generalize (w.alloc (.cells #[.int .u32 N,.slice hA H.length hcap,.slice eA E.length ecap,.slice iA I.length icap,.int .i64 st] 38)).alloc (.cells #[.int .u32 N,.slice hA2 H.length hcap2,.slice eA2 E.length ecap2,.slice iA2 I.length icap2,.int .i64 st] 38)=w1 at *
  have h1s:w.heap.size≤w1.heap.size:=HB0.out.size
  go_loopw [5] (fun i wr=>∃ k:Nat,k≤H.length∧i=.int .i64 (k:Int)∧Below w1.heap.size w1 wr) (fun i _=>H.length - (intOf i).toNat)
  case atStart=>exact ⟨0,Nat.zero_le _,rfl,Below.refl _ _⟩
  case round =>
    obtain ⟨k,hk,rfl,hb⟩:=hrel
    obtain ⟨wo,rfl⟩:∃ wo:World,wo=wr:=⟨_,rfl⟩
    obtain ⟨⟨x0,x1,x2,x3,x4⟩,-⟩:=blk5_facts (HX0.out.below hb HX0.out.lt)
    obtain ⟨⟨y0,y1,y2,y3,y4⟩,-⟩:=blk5_facts (HY0.out.below hb HY0.out.lt)
    have HB:=Lib.hid hb
    have HBW:Hid (Below w.heap.size w wo):=Lib.hid (HB0.out.trans (hb.mono h1s))
    by_cases hlt:k < H.length
    · obtain ⟨_,_,q1,_,q3⟩:=HH.out.below HBW.out
      injection q1 with e1 e2 e3
      subst e1
      obtain ⟨b,o,rfl,hbl,hc⟩:=q3 k _ (List.getElem?_eq_getElem hlt)
      obtain ⟨_,_,r1,_,r3⟩:=HK.out.below HBW.out
      injection r1 with e4 e5 e6
      subst e4
      obtain ⟨b',o',rfl,hbl',hc'⟩:=r3 k _ (List.getElem?_eq_getElem hlt)
      have c0:=hc.1
      have c0':=hc'.1
      rw [Nat.mul_one] at c0 c0'
      generalize H[k]=x at *
      have hxx:((x:Int) != (x:Int))=false:=by simp
      clear hc hc' hb q3 r3 e2 e3 e5 e6
      go_wp2_with fail
      go_quiet (fail)
      go_wp2
      go_roundw
      case rel=>exact ⟨k+1,by omega,by go_num,below_drewN HB.out _⟩
      case measure=>simp [intOf]; omega
    · obtain rfl:k=H.length:=by omega
      clear hb
      go_wp2_with fail
      refine (HNS.out _ HBW.out).mono ?_
      rintro e w2 ⟨rfl,hb2⟩
      have HB2:=Lib.hid (HBW.out.trans (hb2.mono HBW.out.size))
      obtain ⟨⟨u0,u1,u2,u3,u4⟩,-⟩:=blk5_facts ((HX0.out.below HB.out HX0.out.lt).below hb2 (HX0.out.below HB.out HX0.out.lt).lt)
      obtain ⟨⟨z0,z1,z2,z3,z4⟩,-⟩:=blk5_facts ((HY0.out.below HB.out HY0.out.lt).below hb2 (HY0.out.below HB.out HY0.out.lt).lt)
      clear hb2 x0 x1 x2 x3 x4 y0 y1 y2 y3 y4
      go_wp2_with fail
      refine (HIS.out _ HB2.out).mono ?_
      rintro e w3 ⟨rfl,hb3⟩
      have HB3:=Lib.hid (HB2.out.trans (hb3.mono HB2.out.size))
      clear hb3
      go_wp2_with fail
      go_ret
      exact ⟨rfl,HB3.out⟩
section
variable {w0:World} {g ba:Nat} {vs vt:Value} {C:Ch} {fu:Int} {w:World} {vh ve vi vo:Value} {X:Se}
set_option maxHeartbeats 4000000 in
set_option maxRecDepth 100000 in
theorem run12_any (hS:DeAt w0 g ba vs vt C fu w vh ve vi vo X) (hl:C.sts.length≤31) :
    Calls Tryz.prog 12 #[.pointer (some ⟨g,0,none⟩)] w fun e w'=>Below w.heap.size w w'∧∃ v,e=.returned v∧RunAt w' C.sts.length v X:=by
  obtain ⟨hA,hcap,rfl⟩:=hS.rows.hist.slice
  obtain ⟨eA,ecap,rfl⟩:=hS.rows.env.slice
  obtain ⟨iA,icap,rfl⟩:=own_slice hS.rows.ins
  have HS:=Lib.hid hS
  have hb0:=below_box w (.cells #[.int .u32 0,.slice none 0 0,.slice none 0 0,.slice none 0 0,.int .i64 0] 38)
  have HB0:=Lib.hid hb0.drew
  have HBX:=Lib.hid (Blk.new w 38 #[.int .u32 0,.slice none 0 0,.slice none 0 0,.slice none 0 0,.int .i64 0]).drew
  have HS0:=Lib.hid ((hS.after hb0).drew)
  have HBI:=Lib.hid (bitsB_any ba C.sts.length X.a _ (hS.after hb0).drew.act hl)
  have HGE:=Lib.hid hS.blk.lt
  clear hS hb0
  go_enter Tryz.func12,Tryz.ntmps12
  go_wp2_with fail
  obtain ⟨⟨-,-,-,x3,x4⟩,x5,x6,x7,-⟩:=HS0.out.cells
  refine anyD_start (fun W=>W.cell? ⟨g,3,none⟩=some (.slice (some ⟨ba,0,none⟩) C.sts.length C.sts.length)∧W.cell? ⟨g,4,none⟩=some (.slice hA X.hist.length hcap)∧W.cell? ⟨g,5,none⟩=some (.slice eA X.env.length ecap)∧W.cell? ⟨g,6,none⟩=some (.slice iA X.ins.length icap)∧W.cell? ⟨g,7,none⟩=some (.int .i64 X.st)) (fun i=>[22].contains i) (by kernel_rfl) ?_
  try simp only [Act.put,sx]
  generalize (w.alloc (.cells #[.int .u32 0,.slice none 0 0,.slice none 0 0,.slice none 0 0,.int .i64 0] 38)).drew=w1 at *
  refine anyD_t 0 (.pointer (some ⟨g,0,none⟩)) ?_
  try simp only [Act.put,sx]
  refine anyD_t 1 (.pointer (some ⟨g,0,none⟩)) ?_
  try simp only [Act.put,sx]
  refine anyD_t 2 (.pointer (some ⟨g,3,none⟩)) ?_
  try simp only [Act.put,sx]
  refine anyD_l 3 (.slice (some ⟨ba,0,none⟩) C.sts.length C.sts.length) (⟨x3,x4,x5,x6,x7⟩) ?_
  try simp only [Act.put,sx]
  refine anyD_t 5 (.pointer (some ⟨g,0,none⟩)) ?_
  try simp only [Act.put,sx]
  refine anyD_t 6 (.pointer (some ⟨g,0,none⟩)) ?_
  try simp only [Act.put,sx]
  refine anyD_t 7 (.pointer (some ⟨g,4,none⟩)) ?_
  try simp only [Act.put,sx]
  refine anyD_l 8 (.slice hA X.hist.length hcap) (⟨x3,x4,x5,x6,x7⟩) ?_
  try simp only [Act.put,sx]
  refine anyD_t 9 (.pointer (some ⟨g,0,none⟩)) ?_
  try simp only [Act.put,sx]
  refine anyD_t 10 (.pointer (some ⟨g,0,none⟩)) ?_
  try simp only [Act.put,sx]
  refine anyD_t 11 (.pointer (some ⟨g,5,none⟩)) ?_
  try simp only [Act.put,sx]
  refine anyD_l 12 (.slice eA X.env.length ecap) (⟨x3,x4,x5,x6,x7⟩) ?_
  try simp only [Act.put,sx]
  refine anyD_t 13 (.pointer (some ⟨g,0,none⟩)) ?_
  try simp only [Act.put,sx]
  refine anyD_t 14 (.pointer (some ⟨g,0,none⟩)) ?_
  try simp only [Act.put,sx]
  refine anyD_t 15 (.pointer (some ⟨g,6,none⟩)) ?_
  try simp only [Act.put,sx]
  refine anyD_l 16 (.slice iA X.ins.length icap) (⟨x3,x4,x5,x6,x7⟩) ?_
  try simp only [Act.put,sx]
  refine anyD_t 17 (.pointer (some ⟨g,0,none⟩)) ?_
  try simp only [Act.put,sx]
  refine anyD_t 18 (.pointer (some ⟨g,0,none⟩)) ?_
  try simp only [Act.put,sx]
  refine anyD_t 19 (.pointer (some ⟨g,7,none⟩)) ?_
  try simp only [Act.put,sx]
  refine anyD_l 20 (.int .i64 X.st) (⟨x3,x4,x5,x6,x7⟩) ?_
  try simp only [Act.put,sx]
  refine anyD_one (i:=4) rfl rfl (by kernel_rfl) (fun K HK=>?_)
  go_simp
  refine HBI.out.mono ?_
  rintro e w2 ⟨rfl,rfl⟩
  go_simp
  refine HK.out _ _ (fun _ hS=>⟨x3,x4,x5,x6,x7⟩) ?_
  clear HK K
  try simp only [Act.put,sx]
  refine anyD_t 21 (.agg #[.int .u32 ((bset X.a C.sts.length:Nat):Int),.slice hA X.hist.length hcap,.slice eA X.env.length ecap,.slice iA X.ins.length icap,.int .i64 X.st]) ?_
  try simp only [Act.put,sx]
  obtain ⟨⟨p0,p1,p2,p3,p4⟩,q0,q1,q2,q3,q4⟩:=blk5_facts HBX.out
  refine anyD_one (i:=22) rfl rfl (by kernel_rfl) (fun K HK=>?_)
  go_simp
  go_simp
  refine HK.out _ _ (fun h=>absurd h (by decide)) ?_
  clear HK K
  try simp only [Act.put,sx]
  refine anyD_done (by kernel_rfl) ?_
  go_wp2_with fail
  have hb2:=(((((HB0.out.setCell (p:=⟨w.heap.size,0,none⟩) (Nat.le_refl _) (.int .u32 ((bset X.a C.sts.length:Nat):Int))).setCell (p:=⟨w.heap.size,1,none⟩) (Nat.le_refl _) (.slice hA X.hist.length hcap)).setCell (p:=⟨w.heap.size,2,none⟩) (Nat.le_refl _) (.slice eA X.env.length ecap)).setCell (p:=⟨w.heap.size,3,none⟩) (Nat.le_refl _) (.slice iA X.ins.length icap)).setCell (p:=⟨w.heap.size,4,none⟩) (Nat.le_refl _) (.int .i64 X.st))
  refine bodyPost_ret (results_own rfl _ _ _ rfl (load_run (((((HBX.out.set_ 0 _).set_ 1 _).set_ 2 _).set_ 3 _).set_ 4 _))) rfl ?_
  exact ⟨hb2,_,rfl,_,_,_,rfl,HS.out.rows.hist.hist.below hb2,(OwnEnv.nums HS.out.rows.env).below hb2,(OwnInts.of_own HS.out.rows.ins (Nat.le_refl _)).list.below hb2⟩
end
end Go.Proofs.YtfgkcjmeiabdjaaGreatDoor
/- The contract of the document's First. -/
namespace Go.Proofs.YtfgkcjmeiabdjaaGreatDoor
open Go.ChangeShapes Go.WideShapes Go.ChangeAt Go.RowKit
set_option linter.unusedVariables false

theorem bitN_zero:bitN 0=fun _=>false:=by
  funext k
  unfold bitN
  simp
theorem beg_of (C:Ch):(⟨bitN 0,padH C.sts.length [],List.replicate C.vars.toNat 0,[],1,[]⟩:Se)=beg C:=by
  unfold beg padH
  rw [bitN_zero]
  simp
theorem ini_few {C:Ch} (hF:fewB C=true) (s:Nat) (hs:s < C.sts.length):(stAt C.sts (s:Int)).ini.length≤1000:=by
  have:=(few_parts hF).2.2.1 s hs
  unfold fewStB at this
  simp only [Bool.and_eq_true,decide_eq_true_eq] at this
  show (C.sts.getD ((s:Int)).toNat noSt).ini.length≤1000
  exact Nat.le_trans this.2 (by omega)
set_option maxHeartbeats 8000000 in
set_option maxRecDepth 100000 in
theorem first12_any (vs vt:Value) (C:Ch) (w:World) (hC:ChHas w vs vt C) (hk:chk hasTB C=.ok) (hF:fewB C=true) :
    Calls Tryz.prog 9 #[.agg #[.int .i64 C.vars,vs,vt]] w fun e w'=>∃ w0 g ba vh ve vi vo,e=.returned (.pointer (some ⟨g,0,none⟩))∧Below w.heap.size w w0∧DeAt w0 g ba vs vt C 40 w' vh ve vi vo (fstD C):=by
  have hT:=tame_of hk
  have hv:=vars_of hk
  have hcl:=hT.len
  have hpos:=hT.pos
  have HT:=Lib.hid hT
  obtain ⟨iL,ji,jz0,jz1,jz2⟩:=info_parts Tryz.info2
  obtain ⟨sn,hsn⟩:∃ sn:Nat,C.vars=(sn:Int):=⟨C.vars.toNat,by omega⟩
  have hst:C.vars.toNat=sn:=by omega
  have HML:Hid (∀ W:World,(Instr.makeSlice 35 (.int .i64 C.vars) (.int .i64 C.vars)).run Tryz.prog W=.ok (.slice (some ⟨W.heap.size,0,none⟩) sn sn) (W.alloc (.cells (madeCells #[.int .i64 0] sn) 2))):=Lib.hid (fun W=>by
    have:=run_make (P:=Tryz.prog) W 35 2 iL (.int .i64 0) Tryz.underlying35 ji jz0 .i64 .i64 (sn:Int) (sn:Int) (by omega) (by omega) (by rw [jz2]; omega) (by omega)
    rw [jz1] at this
    rw [hsn]
    simpa [Value.cells] using this)
  have HENV:Hid (∀ (W:World) (b:Nat),Blk W b 2 (madeCells #[.int .i64 0] sn)→NumsAt W (.slice (some ⟨b,0,none⟩) sn sn) (List.replicate C.vars.toNat 0)):=Lib.hid (fun W b h=>by
    rw [hst]
    exact OwnEnv.nums (B:=0) (made_rowAt (r:=0) rfl (Nat.zero_le _) h))
  have HOF:=Lib.hid (fun (W:World) (v:Value) (h:Below w.heap.size w W) (hn:NumsAt W v (List.replicate C.vars.toNat 0))=>of12_any vs vt (.slice none 0 0) v (.slice none 0 0) C 0 [] (List.replicate C.vars.toNat 0) [] 1 W (hC.below h) (by omega) (by decide) (RowsAt.nil _) (by simp) hn (by rw [List.length_replicate]; omega) (RowsAt.nil _) (by simp))
  rw [beg_of C] at HOF
  have HLB:=Lib.hid (beg_lim hv)
  have HEN:=Lib.hid (fun (w0:World) (g ba:Nat) (W:World) (vh ve vi vo:Value) (X:Se) (q:Nat) (h:ChHas w0 vs vt C) (hS:DeAt w0 g ba vs vt C 40 W vh ve vi vo X) (hX:Lim q X) (hq:q≤5000) (n:Nat) (hn:n < 4294967296)=>renterS_any h hT hF hS hX hq n hn)
  have HLL:=Lib.hid (fun (n:Nat)=>entLate_lim (fun s=>(acts12_of C hF s).1.1) (bitN n) HLB.out C.sts.length)
  have HH1:Hid ((entLate C.sts (bitN 1) C.sts.length (beg C)).hist=List.replicate C.sts.length 0):=Lib.hid (by rw [fst_one hT,enS_hist]; rfl)
  have HIF:=Lib.hid (ini_few hF 0 hpos)
  have HRE:=Lib.hid (fun (W:World) (vh vl:Value) (hb:Below w.heap.size w W) (hH:HistAt W vh (List.replicate C.sts.length 0)) (hl:ListAt W vl (stAt C.sts ((0:Nat):Int)).ini)=>renter_any C.vars 0 vs vt vh vl C _ _ W (hC.below hb) hH hl hT (good_zero C.sts C.sts.length) (by rw [List.length_replicate]; omega) HIF.out)
  have HFD:Hid (fstD C=entLate C.sts (bitN (bset (dSet C.sts (List.replicate C.sts.length 0) 0 (stAt C.sts ((0:Nat):Int)).ini) C.sts.length)) C.sts.length (entLate C.sts (bitN 1) C.sts.length (beg C))):=Lib.hid (by
    have:=HH1.out
    unfold fstD
    simp only
    rw [this]
    rfl)
  have hNl:bset (dSet C.sts (List.replicate C.sts.length 0) 0 (stAt C.sts ((0:Nat):Int)).ini) C.sts.length < 4294967296:=bset_u32 _ (by omega)
  obtain ⟨N,hN⟩:∃ N,bset (dSet C.sts (List.replicate C.sts.length 0) 0 (stAt C.sts ((0:Nat):Int)).ini) C.sts.length=N:=⟨_,rfl⟩
  rw [hN] at HRE HFD hNl
  have HNL:=Lib.hid hNl
  clear hN hNl
  obtain ⟨X1,hX1⟩:∃ X1,entLate C.sts (bitN 1) C.sts.length (beg C)=X1:=⟨_,rfl⟩
  have HX1:=Lib.hid hX1
  have HL1:=HLL.out 1
  rw [hX1] at HH1 HFD HL1
  have HL1:=Lib.hid HL1
  obtain ⟨b,o,cap',ui,ue,ux,hsl,hoc,hbl,hstt,hhas⟩:=hC.st hpos
  subst hsl
  have HSTT:=Lib.hid hstt
  have HHAS:=Lib.hid hhas
  have hq0:w.cell? ⟨b,o+2,none⟩=some ui:=by
    obtain ⟨-,-,c2,-,-⟩:=hstt
    simpa using c2
  obtain ⟨tA,tcap,rfl,htc⟩:=RowsAt.slice hC.2
  obtain ⟨iA,icap,eA,ecap,xA,xcap,rfl,rfl,rfl⟩:=hhas.slices
  have HC:=Lib.hid hC
  have HQ:=Lib.hid hq0
  clear hq0
  have hb0:=(below_box w (chBox C.vars (.slice (some ⟨b,o,none⟩) C.sts.length cap') (.slice tA C.trs.length tcap)))
  have HB0:=Lib.hid hb0.drew
  have HX0:=Lib.hid (Blk.new w 25 #[.int .i64 C.vars,.slice (some ⟨b,o,none⟩) C.sts.length cap',.slice tA C.trs.length tcap]).drew
  have HBL:=Lib.hid hbl
  clear hC hk hF hT hv hcl ji jz0 jz1 jz2 hst hsn hX1 hstt hhas hb0 htc hbl
  go_enter Tryz.func9,Tryz.ntmps9
  go_wp2_with fail
  refine anyD_start (fun W=>W.cell? ⟨w.heap.size,0,none⟩=some (.int .i64 C.vars)∧W.cell? ⟨w.heap.size,1,none⟩=some (.slice (some ⟨b,o,none⟩) C.sts.length cap')∧W.cell? ⟨w.heap.size,2,none⟩=some (.slice tA C.trs.length tcap)) (fun i=>[].contains i) (by kernel_rfl) ?_
  try simp only [Act.put,sx]
  generalize (w.alloc (chBox C.vars (.slice (some ⟨b,o,none⟩) C.sts.length cap') (.slice tA C.trs.length tcap))).drew=w1 at *
  obtain ⟨⟨c0,c1,c2⟩,-⟩:=HX0.out.facts3
  have h01:w.heap.size≤w1.heap.size:=HB0.out.size
  refine anyD_l 0 (.agg #[.int .i64 C.vars,.slice (some ⟨b,o,none⟩) C.sts.length cap',.slice tA C.trs.length tcap]) (⟨c0,c1,c2⟩) ?_
  try simp only [Act.put,sx]
  refine anyD_t 1 (.pointer (some ⟨w.heap.size,0,none⟩)) ?_
  try simp only [Act.put,sx]
  refine anyD_l 2 (.int .i64 C.vars) (⟨c0,c1,c2⟩) ?_
  try simp only [Act.put,sx]
  refine anyD_one (i:=3) rfl rfl (by kernel_rfl) (fun K HK=>?_)
  go_simp
  have hmk:=HML.out w1
  have HX2:=Lib.hid (HX0.out.alloc (.cells (madeCells #[.int .i64 0] sn) 2))
  have HB2:=Lib.hid (HB0.out.alloc h01 (.cells (madeCells #[.int .i64 0] sn) 2))
  have HE2:=Lib.hid (HENV.out _ _ (Blk.new w1 2 (madeCells #[.int .i64 0] sn)))
  go_simp
  refine HK.out _ _ (fun _ hS=>HX2.out.facts3.1) ?_
  clear HK K
  try simp only [Act.put,sx]
  clear hmk
  generalize w1.alloc (.cells (madeCells #[.int .i64 0] sn) 2)=w2 at *
  refine anyD_t 4 (.agg #[.int .u32 0,.slice none 0 0,.slice (some ⟨w1.heap.size,0,none⟩) sn sn,.slice none 0 0,.int .i64 1]) ?_
  try simp only [Act.put,sx]
  refine anyD_one (i:=5) rfl rfl (by kernel_rfl) (fun K HK=>?_)
  go_simp
  refine (HOF.out w2 _ HB2.out HE2.out).mono ?_
  rintro e w3 ⟨g,ba,vh3,ve3,vi3,rfl,hs3⟩
  have HS3:=Lib.hid hs3
  have HX3:=Lib.hid (HX2.out.below hs3.below HX2.out.lt)
  clear hs3 c0 c1 c2
  go_simp
  refine HK.out _ _ (fun _ hS=>HX3.out.facts3.1) ?_
  clear HK K
  try simp only [Act.put,sx]
  refine anyD_one (i:=6) rfl rfl (by kernel_rfl) (fun K HK=>?_)
  go_simp
  refine HK.out _ _ (fun _ hS=>HX3.out.facts3.1) ?_
  clear HK K
  try simp only [Act.put,sx]
  refine anyD_done (by kernel_rfl) ?_
  go_wp2_with fail
  have HC2:=Lib.hid (HC.out.below HB2.out)
  refine (HEN.out _ _ _ _ _ _ _ _ _ _ HC2.out HS3.out HLB.out (by omega) 1 (by decide)).mono ?_
  rintro e w4 ⟨rfl,vh4,ve4,vi4,vo4,hs4⟩
  rw [HX1.out] at hs4
  obtain ⟨hA4,hcap4,rfl⟩:=hs4.rows.hist.slice
  have HS4:=Lib.hid hs4
  have HX4:=Lib.hid (HX2.out.below hs4.below HX2.out.lt)
  have HB4:=Lib.hid (HB2.out.trans (hs4.below.mono HB2.out.size))
  clear hs4
  go_wp2_with fail
  obtain ⟨⟨c0,c1,c2⟩,-⟩:=HX4.out.drew.facts3
  have y4:=HS4.out.drew.blk.cell 4
  obtain ⟨-,-,q2,-,-⟩:=HSTT.out.below HB4.out.drew HBL.out
  have q2':w4.drew.cell? ⟨b,o+2,none⟩=some (.slice iA (stAt C.sts ((0:Nat):Int)).ini.length icap):=by simpa using q2
  clear q2
  have HRE4:=Lib.hid (HRE.out w4.drew _ _ HB4.out.drew (by have:=HS4.out.drew.rows.hist.hist; rwa [HH1.out] at this) (HHAS.out.1.below HB4.out.drew))
  rw [List.length_replicate] at HRE4
  have hln:X1.hist.length=C.sts.length:=by rw [HH1.out,List.length_replicate]
  generalize (stAt C.sts ((0:Nat):Int)).ini.length=il at *
  refine anyD_start (fun W=>(W.cell? ⟨w.heap.size,0,none⟩=some (.int .i64 C.vars)∧W.cell? ⟨w.heap.size,1,none⟩=some (.slice (some ⟨b,o,none⟩) C.sts.length cap')∧W.cell? ⟨w.heap.size,2,none⟩=some (.slice tA C.trs.length tcap))∧W.cell? ⟨b,o+2,none⟩=some (.slice iA il icap)) (fun i=>[].contains i) (by kernel_rfl) ?_
  try simp only [Act.put,sx]
  refine anyD_t 0 (.pointer (some ⟨g,0,none⟩)) ?_
  try simp only [Act.put,sx]
  refine anyD_l 1 (.agg #[.int .i64 C.vars,.slice (some ⟨b,o,none⟩) C.sts.length cap',.slice tA C.trs.length tcap]) (⟨⟨c0,c1,c2⟩,q2'⟩) ?_
  try simp only [Act.put,sx]
  refine anyD_t 2 (.pointer (some ⟨g,0,none⟩)) ?_
  try simp only [Act.put,sx]
  refine anyD_t 3 (.pointer (some ⟨g,0,none⟩)) ?_
  try simp only [Act.put,sx]
  refine anyD_t 4 (.pointer (some ⟨g,4,none⟩)) ?_
  try simp only [Act.put,sx]
  refine anyD_t 6 (.pointer (some ⟨w.heap.size,1,none⟩)) ?_
  try simp only [Act.put,sx]
  refine anyD_l 7 (.slice (some ⟨b,o,none⟩) C.sts.length cap') (⟨⟨c0,c1,c2⟩,q2'⟩) ?_
  try simp only [Act.put,sx]
  refine anyD_t 8 (.pointer (some ⟨b,o,none⟩)) ?_
  try simp only [Act.put,sx]
  refine anyD_t 9 (.pointer (some ⟨b,o+2,none⟩)) ?_
  try simp only [Act.put,sx]
  refine anyD_l 10 (.slice iA il icap) (⟨⟨c0,c1,c2⟩,q2'⟩) ?_
  try simp only [Act.put,sx]
  refine anyD_one (i:=5) rfl rfl (by kernel_rfl) (fun K HK=>?_)
  go_simp
  go_simp
  refine HK.out _ _ (fun _ hS=>⟨⟨c0,c1,c2⟩,q2'⟩) ?_
  clear HK K
  try simp only [Act.put,sx]
  refine anyD_one (i:=11) rfl rfl (by kernel_rfl) (fun K HK=>?_)
  go_simp
  refine HRE4.out.mono ?_
  rintro e w5 ⟨rfl,hb5⟩
  have HS5:=Lib.hid (HS4.out.drew.after hb5)
  have HX5:=Lib.hid (HX4.out.drew.below hb5 HX4.out.drew.lt)
  have q5:=(hb5.cell (p:=⟨b,o+2,none⟩) (Lib.lt_of_cell q2')).trans q2'
  clear hb5
  go_simp
  refine HK.out _ _ (fun _ hS=>⟨HX5.out.facts3.1,q5⟩) ?_
  clear HK K
  try simp only [Act.put,sx]
  have HEN5:=Lib.hid (HEN.out _ _ _ _ _ _ _ _ _ _ HC2.out HS5.out HL1.out (by have:=HT.out.len; omega) N HNL.out)
  refine anyD_one (i:=12) rfl rfl (by kernel_rfl) (fun K HK=>?_)
  go_simp
  refine HEN5.out.mono ?_
  rintro e w6 ⟨rfl,vh6,ve6,vi6,vo6,hs6⟩
  rw [← HFD.out] at hs6
  have HS6:=Lib.hid hs6
  have HX6:=Lib.hid (HX2.out.below hs6.below HX2.out.lt)
  have q6:=((hs6.below.cell (p:=⟨b,o+2,none⟩) (Nat.lt_of_lt_of_le HBL.out HB2.out.size)).trans ((HB2.out.cell (p:=⟨b,o+2,none⟩) HBL.out).trans HQ.out))
  clear hs6
  go_simp
  refine HK.out _ _ (fun _ hS=>⟨HX6.out.facts3.1,q6⟩) ?_
  clear HK K
  try simp only [Act.put,sx]
  refine anyD_done (by kernel_rfl) ?_
  go_wp2_with fail
  go_ret
  exact ⟨w2,g,ba,_,_,_,_,rfl,HB2.out,HS6.out⟩
end Go.Proofs.YtfgkcjmeiabdjaaGreatDoor
/- The walk of the law MicroFirst: true for any chart. -/
namespace Go.Proofs.YtfgkcjmeiabdjaaGreatDoor
open Go.ChangeShapes Go.WideShapes Go.ChangeAt Go.RowKit
set_option linter.unusedVariables false

theorem fstS_lim {C:Ch} (hk:chk hasTB C=.ok) (hF:fewB C=true):Lim (3+3 * C.sts.length) (fstS C):=by
  have h1:=enS_lim (fun s=>(acts12_of C hF s).1.1) 0 (beg_lim (vars_of hk))
  exact entU_lim (fun s=>(acts12_of C hF s).1.1) _ h1 C.sts.length
theorem fstS_hist (C:Ch):(fstS C).hist=List.replicate C.sts.length 0:=by
  show (entU C.sts _ C.sts.length (enS C.sts 0 (beg C))).hist=_
  rw [entU_hist,enS_hist]
  rfl
set_option maxHeartbeats 8000000 in
set_option maxRecDepth 100000 in
theorem ilaw1_any (vs vt:Value) (C:Ch) (w:World) (hL:Laid w) (hC:ChHas w vs vt C) (hS:ShortCh C) :
    Calls Tryz.prog 3 #[.agg #[.int .i64 C.vars,vs,vt]] w fun e w'=>e=.returned (.bool true)∧Below w.heap.size w w':=by
  obtain ⟨sA,scap,tA,tcap,rfl,rfl⟩:=hC.slices
  have HL:=Lib.hid hL
  have HL0:=Lib.hid (hL.after (below_box w (chBox C.vars (.slice sA C.sts.length scap) (.slice tA C.trs.length tcap))))
  have HF:=Lib.hid (fun (W:World) (h:Below (w.alloc (chBox C.vars (.slice sA C.sts.length scap) (.slice tA C.trs.length tcap))).heap.size (w.alloc (chBox C.vars (.slice sA C.sts.length scap) (.slice tA C.trs.length tcap))) W)=>few_any C.vars (.slice sA C.sts.length scap) (.slice tA C.trs.length tcap) C W (hC.below (below_boxed h)) hS)
  have HC:=Lib.hid hC
  have HCH:=Lib.hid (fun (W:World) (hF:fewB C=true) (h:Below (w.alloc (chBox C.vars (.slice sA C.sts.length scap) (.slice tA C.trs.length tcap))).heap.size (w.alloc (chBox C.vars (.slice sA C.sts.length scap) (.slice tA C.trs.length tcap))) W)=>new_any (.slice sA C.sts.length scap) (.slice tA C.trs.length tcap) C W (hL.after (below_boxed h)) (hC.below (below_boxed h)) hF)
  have hnn:=neq_nil_nil
  have hnc:=fun p W=>neq_code_any p W
  have hns:=fun p W=>neq_spot_any p W
  clear hL hC hS
  cases hf:fewB C with
  | false =>
    have HFF:=Lib.hid hf
    clear hf
    go_enter Tryz.func3,Tryz.ntmps3
    go_wp2_with fail
    refine (upI_any _ HL0.out).mono ?_
    rintro e w1 ⟨rfl,hb1⟩
    obtain ⟨x0,x1,x2⟩:=box_later hb1
    have HB1:=Lib.hid hb1
    clear hb1
    go_wp2_with fail
    refine (HF.out _ HB1.out).mono ?_
    rintro e w2 ⟨rfl,hb2⟩
    have hB2:=HB1.out.trans (hb2.mono HB1.out.size)
    clear x0 x1 x2
    obtain ⟨x0,x1,x2⟩:=box_later hB2
    have HB2:=Lib.hid hB2
    rw [HFF.out]
    clear hb2 hB2
    go_wp2_with fail
    go_ret
    exact ⟨rfl,below_boxed HB2.out⟩
  | true =>
    have HFF:=Lib.hid hf
    clear hf
    have HCK:=Lib.hid (fun (W:World) h=>HCH.out W HFF.out h)
    by_cases hok:chk hasTB C=.ok
    · have HOK:=Lib.hid hok
      have hcl:=(tame_of hok).len
      have hno:=fun t W=>nilT_no t W
      obtain ⟨sn,hsn⟩:∃ sn:Nat,C.vars=(sn:Int):=⟨C.vars.toNat,by have:=(vars_of hok).1; omega⟩
      have HSN:=Lib.hid hsn
      have hlim:=fstS_lim hok HFF.out
      have HLIM:Hid ((fstS C).hist.length≤1000∧(fstS C).env.length≤1000∧(fstS C).ins.length≤1000000∧(fstS C).out.length≤1000000):=Lib.hid ⟨by rw [fstS_hist,List.length_replicate]; omega,hlim.env,by have:=hlim.ins; omega,by have:=hlim.out; omega⟩
      have HSAME:Hid (fstD C=fstS C):=Lib.hid (fst_same (tame_of hok))
      have HBH:Hid ((beg C).hist.length=C.sts.length):=Lib.hid (List.length_replicate ..)
      have HBE:Hid ((beg C).env.length=sn):=Lib.hid (by show (List.replicate _ _).length=sn; rw [List.length_replicate,hsn]; rfl)
      have hvv:((sn:Int) == C.vars)=true:=by rw [hsn]; simp
      clear hok hsn hlim
      go_enter Tryz.func3,Tryz.ntmps3
      go_wp2_with fail
      refine (upI_any _ HL0.out).mono ?_
      rintro e w1 ⟨rfl,hb1⟩
      obtain ⟨x0,x1,x2⟩:=box_later hb1
      have HB1:=Lib.hid hb1
      clear hb1
      go_wp2_with fail
      refine (HF.out _ HB1.out).mono ?_
      rintro e w2 ⟨rfl,hb2⟩
      have hB2:=HB1.out.trans (hb2.mono HB1.out.size)
      clear x0 x1 x2
      obtain ⟨x0,x1,x2⟩:=box_later hB2
      have HB2:=Lib.hid hB2
      rw [HFF.out]
      clear hb2 hB2
      go_wp2_with fail
      refine (HCK.out _ HB2.out).mono ?_
      intro e w3 hp
      obtain ⟨hb3,t,rfl,ht,hT⟩:=npost_yes hp HOK.out
      have HB3:=Lib.hid (HB2.out.trans (hb3.mono HB2.out.size))
      have HT3:=Lib.hid hT
      have HL3:=Lib.hid (HL.out.after (below_boxed HB3.out))
      clear hb3 hp hT ht x0 x1 x2
      obtain ⟨x0,x1,x2⟩:=box_later HB3.out
      go_wp2_with fail
      refine (mfirst_any t C w3 HL3.out HT3.out HOK.out HFF.out).mono ?_
      rintro e w4 ⟨hb4,v4,vo4,rfl,hr4,ho4⟩
      have HR4:=Lib.hid hr4
      have HO4:=Lib.hid ho4
      obtain ⟨vh4,ve4,vi4,rfl,h1,h2,h3⟩:=hr4
      obtain ⟨hA4,hcap4,rfl,-⟩:=RowsAt.slice h1
      obtain ⟨eA4,ecap4,rfl,-⟩:=RowsAt.slice (rows_of_nums h2)
      obtain ⟨iA4,icap4,rfl,-⟩:=RowsAt.slice h3
      have HB4:=Lib.hid (HB3.out.trans (hb4.mono HB3.out.size))
      have HT4:=Lib.hid (HT3.out.below hb4)
      clear hb4 ho4 h1 h2 h3 x0 x1 x2
      obtain ⟨x0,x1,x2⟩:=box_later HB4.out
      have HB5:=Lib.hid (HB4.out.alloc HB4.out.size (.cells #[.int .u32 ((bset (fstS C).a C.sts.length:Nat):Int),.slice hA4 (fstS C).hist.length hcap4,.slice eA4 (fstS C).env.length ecap4,.slice iA4 (fstS C).ins.length icap4,.int .i64 (fstS C).st] 38))
      have HX5:=Lib.hid (Blk.new w4 38 #[.int .u32 ((bset (fstS C).a C.sts.length:Nat):Int),.slice hA4 (fstS C).hist.length hcap4,.slice eA4 (fstS C).env.length ecap4,.slice iA4 (fstS C).ins.length icap4,.int .i64 (fstS C).st])
      have HT5:=Lib.hid (HT4.out.below (below_box w4 (.cells #[.int .u32 ((bset (fstS C).a C.sts.length:Nat):Int),.slice hA4 (fstS C).hist.length hcap4,.slice eA4 (fstS C).env.length ecap4,.slice iA4 (fstS C).ins.length icap4,.int .i64 (fstS C).st] 38)))
      have HR5:=Lib.hid (HR4.out.below (below_box w4 (.cells #[.int .u32 ((bset (fstS C).a C.sts.length:Nat):Int),.slice hA4 (fstS C).hist.length hcap4,.slice eA4 (fstS C).env.length ecap4,.slice iA4 (fstS C).ins.length icap4,.int .i64 (fstS C).st] 38)))
      have HO5:=Lib.hid (HO4.out.below (below_box w4 (.cells #[.int .u32 ((bset (fstS C).a C.sts.length:Nat):Int),.slice hA4 (fstS C).hist.length hcap4,.slice eA4 (fstS C).env.length ecap4,.slice iA4 (fstS C).ins.length icap4,.int .i64 (fstS C).st] 38)))
      clear x0 x1 x2
      obtain ⟨x0,x1,x2⟩:=box_later HB5.out
      have HFD:=Lib.hid (first12_any _ _ C _ (HC.out.below (below_boxed HB5.out)) HOK.out HFF.out)
      obtain ⟨oA4,ocap4,hoo,-⟩:=HO4.out
      subst hoo
      clear HR4 HT4
      go_wp2_with fail
      refine HFD.out.mono ?_
      rintro e w6 ⟨w0,g,ba,vh6,ve6,vi6,vo6,rfl,hb6,hs6⟩
      rw [HSAME.out] at hs6
      obtain ⟨oA6,ocap6,rfl⟩:=own_slice hs6.rows.out
      have HS6:=Lib.hid hs6
      have hb56:=hb6.trans (hs6.below.mono hb6.size)
      have HB6:=Lib.hid (HB5.out.trans (hb56.mono HB5.out.size))
      have HX6:=Lib.hid (HX5.out.below hb56 HX5.out.lt)
      have HT6:=Lib.hid (HT5.out.below hb56)
      have HR6:=Lib.hid (HR5.out.below hb56)
      have HO6:=Lib.hid (HO5.out.below hb56)
      have HBG:=Lib.hid (begin_any t C w6 HT6.out HOK.out HFF.out)
      clear hb6 hs6 hb56 x0 x1 x2 HFD HX5 HT5 HR5 HO5 HB5 HO4
      go_wp2_with fail
      refine HBG.out.mono ?_
      rintro e w7 ⟨hb7,v7,rfl,hr7⟩
      obtain ⟨vh7,ve7,vi7,rfl,h1,h2,h3⟩:=hr7
      obtain ⟨hA7,hcap7,rfl,-⟩:=RowsAt.slice h1
      obtain ⟨eA7,ecap7,rfl,-⟩:=RowsAt.slice (rows_of_nums h2)
      obtain ⟨iA7,icap7,rfl,-⟩:=RowsAt.slice h3
      have hz0:((bset (beg C).a C.sts.length:Nat):Int)=0:=by
        show ((bset (fun _=>false) C.sts.length:Nat):Int)=0
        rw [bset_none]
        rfl
      have hz1:(beg C).ins.length=0:=rfl
      have hz2:(beg C).st=1:=rfl
      rw [hz0,HBH.out,HBE.out,hz1,hz2]
      have HB8:=Lib.hid ((HB6.out.trans (hb7.mono HB6.out.size)).alloc (HB6.out.trans (hb7.mono HB6.out.size)).size (.cells #[.int .u32 0,.slice hA7 C.sts.length hcap7,.slice eA7 sn ecap7,.slice iA7 0 icap7,.int .i64 1] 38)).drew
      have HX8:=Lib.hid ((HX6.out.below hb7 HX6.out.lt).alloc (.cells #[.int .u32 0,.slice hA7 C.sts.length hcap7,.slice eA7 sn ecap7,.slice iA7 0 icap7,.int .i64 1] 38)).drew
      have HY8:=Lib.hid (Blk.new w7 38 #[.int .u32 0,.slice hA7 C.sts.length hcap7,.slice eA7 sn ecap7,.slice iA7 0 icap7,.int .i64 1]).drew
      have HS8:=Lib.hid ((HS6.out.after hb7).after (below_box w7 (.cells #[.int .u32 0,.slice hA7 C.sts.length hcap7,.slice eA7 sn ecap7,.slice iA7 0 icap7,.int .i64 1] 38))).drew
      have HR8:=Lib.hid (((HR6.out.below hb7).below (below_box w7 (.cells #[.int .u32 0,.slice hA7 C.sts.length hcap7,.slice eA7 sn ecap7,.slice iA7 0 icap7,.int .i64 1] 38))).below (Below.refl _ _).drew)
      have HO8:=Lib.hid (((HO6.out.below hb7).below (below_box w7 (.cells #[.int .u32 0,.slice hA7 C.sts.length hcap7,.slice eA7 sn ecap7,.slice iA7 0 icap7,.int .i64 1] 38))).below (Below.refl _ _).drew)
      clear hb7 h1 h2 h3 hz0 hz1 hz2 HB6 HX6 HT6 HR6 HO6 HS6 HBG
      go_wp2_with fail
      refine anyD_start (fun W=>(W.cell? ⟨w4.heap.size,0,none⟩=some (.int .u32 ((bset (fstS C).a C.sts.length:Nat):Int))∧W.cell? ⟨w4.heap.size,1,none⟩=some (.slice hA4 (fstS C).hist.length hcap4)∧W.cell? ⟨w4.heap.size,2,none⟩=some (.slice eA4 (fstS C).env.length ecap4)∧W.cell? ⟨w4.heap.size,3,none⟩=some (.slice iA4 (fstS C).ins.length icap4)∧W.cell? ⟨w4.heap.size,4,none⟩=some (.int .i64 (fstS C).st))∧W.cell? ⟨g,8,none⟩=some (.slice oA6 (fstS C).out.length ocap6)∧(W.cell? ⟨w7.heap.size,0,none⟩=some (.int .u32 0)∧W.cell? ⟨w7.heap.size,1,none⟩=some (.slice hA7 C.sts.length hcap7)∧W.cell? ⟨w7.heap.size,2,none⟩=some (.slice eA7 sn ecap7)∧W.cell? ⟨w7.heap.size,3,none⟩=some (.slice iA7 0 icap7))∧W.cell? ⟨w.heap.size,0,none⟩=some (.int .i64 C.vars)∧W.cell? ⟨w.heap.size,1,none⟩=some (.slice sA C.sts.length scap)) (fun i=>[].contains i) (by kernel_rfl) ?_
      try simp only [Act.put,sx]
      generalize (w7.alloc (.cells #[.int .u32 0,.slice hA7 C.sts.length hcap7,.slice eA7 sn ecap7,.slice iA7 0 icap7,.int .i64 1] 38)).drew=w8 at *
      have HSL:Hid (∀ W:World,Below w8.heap.size w8 W→(W.cell? ⟨w4.heap.size,0,none⟩=some (.int .u32 ((bset (fstS C).a C.sts.length:Nat):Int))∧W.cell? ⟨w4.heap.size,1,none⟩=some (.slice hA4 (fstS C).hist.length hcap4)∧W.cell? ⟨w4.heap.size,2,none⟩=some (.slice eA4 (fstS C).env.length ecap4)∧W.cell? ⟨w4.heap.size,3,none⟩=some (.slice iA4 (fstS C).ins.length icap4)∧W.cell? ⟨w4.heap.size,4,none⟩=some (.int .i64 (fstS C).st))∧W.cell? ⟨g,8,none⟩=some (.slice oA6 (fstS C).out.length ocap6)∧(W.cell? ⟨w7.heap.size,0,none⟩=some (.int .u32 0)∧W.cell? ⟨w7.heap.size,1,none⟩=some (.slice hA7 C.sts.length hcap7)∧W.cell? ⟨w7.heap.size,2,none⟩=some (.slice eA7 sn ecap7)∧W.cell? ⟨w7.heap.size,3,none⟩=some (.slice iA7 0 icap7))∧W.cell? ⟨w.heap.size,0,none⟩=some (.int .i64 C.vars)∧W.cell? ⟨w.heap.size,1,none⟩=some (.slice sA C.sts.length scap)):=Lib.hid (fun W hb=>by
        obtain ⟨a0,a1,a2⟩:=box_later (HB8.out.trans (hb.mono HB8.out.size))
        exact ⟨(blk5_facts (HX8.out.below hb HX8.out.lt)).1,(HS8.out.after hb).blk.cell 8,⟨(HY8.out.below hb HY8.out.lt).cell 0,(HY8.out.below hb HY8.out.lt).cell 1,(HY8.out.below hb HY8.out.lt).cell 2,(HY8.out.below hb HY8.out.lt).cell 3⟩,a0,a1⟩)
      have HS0:=Lib.hid (HSL.out w8 (Below.refl _ _))
      refine anyD_t 0 (.bool true) ?_
      try simp only [Act.put,sx]
      refine anyD_t 1 (.bool true) ?_
      try simp only [Act.put,sx]
      refine anyD_l 2 (.agg #[.int .u32 ((bset (fstS C).a C.sts.length:Nat):Int),.slice hA4 (fstS C).hist.length hcap4,.slice eA4 (fstS C).env.length ecap4,.slice iA4 (fstS C).ins.length icap4,.int .i64 (fstS C).st]) (HS0.out) ?_
      try simp only [Act.put,sx]
      refine anyD_t 3 (.pointer (some ⟨g,0,none⟩)) ?_
      try simp only [Act.put,sx]
      refine anyD_only (i:=4) rfl (by kernel_rfl) (by kernel_rfl) (fun K HK=>?_)
      go_simp
      refine (run12_any HS8.out (by omega)).mono ?_
      rintro e w9 ⟨hb9,v9,rfl,hr9⟩
      have HB9:=Lib.hid hb9
      have HR9:=Lib.hid hr9
      have HS9:=Lib.hid (HSL.out w9 hb9)
      have HSA:=Lib.hid (same12_any _ _ C.sts.length (fstS C) w9 (HR8.out.below hb9) hr9 HLIM.out.1 HLIM.out.2.1 HLIM.out.2.2.1)
      clear hb9 hr9
      go_simp
      refine HK.out _ _ (fun _ hS=>HS9.out) ?_
      clear HK K
      try simp only [Act.put,sx]
      refine anyD_only (i:=5) rfl (by kernel_rfl) (by kernel_rfl) (fun K HK=>?_)
      go_simp
      refine HSA.out.mono ?_
      rintro e w10 ⟨rfl,hb10⟩
      have HB10:=Lib.hid (HB9.out.trans (hb10.mono HB9.out.size))
      have HS10:=Lib.hid (HSL.out w10 HB10.out)
      have HOS:=Lib.hid (outs_same2 _ _ (fstS C).out w10 (HO8.out.below HB10.out) ((OwnOuts.outs HS8.out.rows.out).below HB10.out) HLIM.out.2.2.2)
      clear hb10
      go_simp
      refine HK.out _ _ (fun _ hS=>HS10.out) ?_
      clear HK K
      try simp only [Act.put,sx]
      refine anyD_t 6 (.bool true) ?_
      try simp only [Act.put,sx]
      refine anyD_t 7 (.bool true) ?_
      try simp only [Act.put,sx]
      refine anyD_t 8 (.slice oA4 (fstS C).out.length ocap4) ?_
      try simp only [Act.put,sx]
      refine anyD_t 9 (.pointer (some ⟨g,0,none⟩)) ?_
      try simp only [Act.put,sx]
      refine anyD_t 10 (.pointer (some ⟨g,0,none⟩)) ?_
      try simp only [Act.put,sx]
      refine anyD_t 11 (.pointer (some ⟨g,8,none⟩)) ?_
      try simp only [Act.put,sx]
      refine anyD_l 12 (.slice oA6 (fstS C).out.length ocap6) (HS10.out) ?_
      try simp only [Act.put,sx]
      refine anyD_only (i:=13) rfl (by kernel_rfl) (by kernel_rfl) (fun K HK=>?_)
      go_simp
      refine HOS.out.mono ?_
      rintro e w11 ⟨rfl,hb11⟩
      have HB11:=Lib.hid (HB10.out.trans (hb11.mono HB10.out.size))
      have HS11:=Lib.hid (HSL.out w11 HB11.out)
      clear hb11
      go_simp
      refine HK.out _ _ (fun _ hS=>HS11.out) ?_
      clear HK K
      try simp only [Act.put,sx]
      refine anyD_t 14 (.bool true) ?_
      try simp only [Act.put,sx]
      refine anyD_t 15 (.bool true) ?_
      try simp only [Act.put,sx]
      refine anyD_t 16 (.pointer (some ⟨w7.heap.size,0,none⟩)) ?_
      try simp only [Act.put,sx]
      refine anyD_l 17 (.int .u32 0) (HS11.out) ?_
      try simp only [Act.put,sx]
      refine anyD_t 18 (.bool true) ?_
      try simp only [Act.put,sx]
      refine anyD_t 19 (.bool true) ?_
      try simp only [Act.put,sx]
      refine anyD_t 20 (.bool true) ?_
      try simp only [Act.put,sx]
      refine anyD_t 21 (.pointer (some ⟨w7.heap.size,1,none⟩)) ?_
      try simp only [Act.put,sx]
      refine anyD_l 22 (.slice hA7 C.sts.length hcap7) (HS11.out) ?_
      try simp only [Act.put,sx]
      refine anyD_t 23 (.int .i64 (C.sts.length:Int)) ?_
      try simp only [Act.put,sx]
      refine anyD_t 24 (.pointer (some ⟨w.heap.size,1,none⟩)) ?_
      try simp only [Act.put,sx]
      refine anyD_l 25 (.slice sA C.sts.length scap) (HS11.out) ?_
      try simp only [Act.put,sx]
      refine anyD_t 26 (.int .i64 (C.sts.length:Int)) ?_
      try simp only [Act.put,sx]
      refine anyD_t 27 (.bool true) ?_
      try simp only [Act.put,sx]
      refine anyD_t 28 (.bool true) ?_
      try simp only [Act.put,sx]
      refine anyD_t 29 (.bool true) ?_
      try simp only [Act.put,sx]
      refine anyD_t 30 (.pointer (some ⟨w7.heap.size,2,none⟩)) ?_
      try simp only [Act.put,sx]
      refine anyD_l 31 (.slice eA7 sn ecap7) (HS11.out) ?_
      try simp only [Act.put,sx]
      refine anyD_t 32 (.int .i64 (sn:Int)) ?_
      try simp only [Act.put,sx]
      refine anyD_t 33 (.pointer (some ⟨w.heap.size,0,none⟩)) ?_
      try simp only [Act.put,sx]
      refine anyD_l 34 (.int .i64 C.vars) (HS11.out) ?_
      try simp only [Act.put,sx]
      refine anyD_t 35 (.bool true) ?_
      try simp only [Act.put,sx]
      refine anyD_t 36 (.bool true) ?_
      try simp only [Act.put,sx]
      refine anyD_t 37 (.bool true) ?_
      try simp only [Act.put,sx]
      refine anyD_t 38 (.pointer (some ⟨w7.heap.size,3,none⟩)) ?_
      try simp only [Act.put,sx]
      refine anyD_l 39 (.slice iA7 0 icap7) (HS11.out) ?_
      try simp only [Act.put,sx]
      refine anyD_t 40 (.int .i64 0) ?_
      try simp only [Act.put,sx]
      refine anyD_t 41 (.bool true) ?_
      try simp only [Act.put,sx]
      refine anyD_t 42 (.bool true) ?_
      try simp only [Act.put,sx]
      refine anyD_one (i:=43) rfl rfl (by kernel_rfl) (fun K HK=>?_)
      go_simp
      refine HK.out _ _ (fun _ hS=>HS11.out) ?_
      clear HK K
      try simp only [Act.put,sx]
      refine anyD_done (by kernel_rfl) ?_
      go_wp2_with fail
      go_ret
      exact ⟨rfl,below_boxed (HB8.out.trans (HB11.out.mono HB8.out.size))⟩
    · have HOK:=Lib.hid hok
      clear hok
      go_enter Tryz.func3,Tryz.ntmps3
      go_wp2_with fail
      refine (upI_any _ HL0.out).mono ?_
      rintro e w1 ⟨rfl,hb1⟩
      obtain ⟨x0,x1,x2⟩:=box_later hb1
      have HB1:=Lib.hid hb1
      clear hb1
      go_wp2_with fail
      refine (HF.out _ HB1.out).mono ?_
      rintro e w2 ⟨rfl,hb2⟩
      have hB2:=HB1.out.trans (hb2.mono HB1.out.size)
      clear x0 x1 x2
      obtain ⟨x0,x1,x2⟩:=box_later hB2
      have HB2:=Lib.hid hB2
      rw [HFF.out]
      clear hb2 hB2
      go_wp2_with fail
      refine (HCK.out _ HB2.out).mono ?_
      intro e w3 hp
      obtain ⟨hb3,hv⟩:=npost_no hp HOK.out
      have HB3:=Lib.hid (HB2.out.trans (hb3.mono HB2.out.size))
      clear hb3 hp x0 x1 x2
      rcases hv with ⟨p,rfl⟩ | ⟨p,rfl⟩
      · go_wp2_with fail
        go_ret
        exact ⟨rfl,below_boxed HB3.out⟩
      · go_wp2_with fail
        go_ret
        exact ⟨rfl,below_boxed HB3.out⟩
end Go.Proofs.YtfgkcjmeiabdjaaGreatDoor
