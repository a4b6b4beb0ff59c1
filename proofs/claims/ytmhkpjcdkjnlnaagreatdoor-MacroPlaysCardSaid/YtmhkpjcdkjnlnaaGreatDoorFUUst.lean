/- The contract of macro's round. -/
import Derived.Test.YtmhkpjcdkjnlnaaGreatDoorFUUmr
import Derived.Test.YtmhkpjcdkjnlnaaGreatDoorFUHsi
import Derived.Test.YtmhkpjcdkjnlnaaGreatDoorFUUpure
namespace Go.Proofs.YtmhkpjcdkjnlnaaGreatDoor
open Go.ChangeShapes Go.WideShapes Go.ChangeAt Go.RowKit
set_option linter.unusedVariables false

theorem rndF_succ (C:Ch) (ev:Int) (X:Se) (k:Nat):rndF C ev X (k+1)=(decide (rndL C ev X ≠ []),rndS C ev X,k):=rfl
def Side (W:World) (B:Nat) (v u:Value) (L:List Int):Prop:=W.ownsRow B 3 1 v L.length (intVals L)∧(v.ownBlock=none ∨ v.ownBlock ≠ u.ownBlock)
theorem Side.grown {W W':World} {B:Nat} {v u u':Value} {L:List Int} (h:Side W B v u L) (hg:W.grownBy W' u.ownBlock) (hn:∀ k,u'.ownBlock=some k→u.ownBlock=some k ∨ W.heap.size≤k):Side W' B v u' L:=by
 refine ⟨h.1.kept hg h.2,?_⟩
 cases hv:v.ownBlock with
 | none=>exact .inl rfl
 | some k =>
  refine .inr fun hc=>?_
  rcases hn k hc.symm with h1 | h1
  · rcases h.2 with h2 | h2
    · rw [hv] at h2; cases h2
    · exact h2 (by rw [hv,h1])
  · have:=(h.1.lt k hv).2
    omega
theorem Side.below {W W':World} {B:Nat} {v u:Value} {L:List Int} (h:Side W B v u L) (hb:Below W.heap.size W W'):Side W' B v u L:=⟨own_below h.1 hb,h.2⟩
theorem Side.apart {W:World} {B g:Nat} {v u:Value} {L:List Int} {t:TypeId} {cs:Array Value} (h:Side W B v u L) (hg:Blk W g t cs) (ht:3 ≠ t) (j:Nat) (x:Value):Side (W.setCell ⟨g,j,none⟩ x) B v u L:=⟨own_apart h.1 hg ht j x,h.2⟩
theorem addE_zero (X:Se):X.addE 0=X:=by
 show (⟨X.a,X.hist,X.env,X.ins ++ [],X.st,X.out⟩:Se)=X
 rw [List.append_nil]
theorem addE_succ (X:Se) (m:Nat):X.addE (m+1)=⟨X.a,X.hist,X.env,(X.addE m).ins ++ [1001],X.st,X.out⟩:=by
 show (⟨X.a,X.hist,X.env,X.ins ++ List.replicate (m+1) 1001,X.st,X.out⟩:Se)=⟨X.a,X.hist,X.env,(X.ins ++ List.replicate m 1001) ++ [1001],X.st,X.out⟩
 rw [List.append_assoc,← List.replicate_succ']
section
variable {w0:World} {t g:Nat} {C:Ch} {w:World} {vh ve vi vo:Value} {X:Se} {f:Nat}
def RdPost (w0:World) (t g:Nat) (C:Ch) (b:Bool) (Y:Se) (f:Nat) (e:Ending) (w':World):Prop:=e=.returned (.bool b)∧∃ vh ve vi vo,MsAt w0 t g C w' vh ve vi vo Y f
set_option maxHeartbeats 4000000 in
set_option maxRecDepth 100000 in
theorem round_zero (h:MsAt w0 t g C w vh ve vi vo X 0) (ev:Int):Calls Tryz.prog 42 #[.pointer (some ⟨g,0,none⟩),.int .i64 ev] w (RdPost w0 t g C false (X.putSt 3) 0):=by
 obtain ⟨x0,x1,x2,x3,x4,x5,x6,x7⟩:=h.cells
 obtain ⟨f1,f2,f3,f4,f5,f6,f7⟩:=h.froz
 have HS:=Lib.hid (h.putSt 3)
 clear h x0 x1 x2 x3 x4 x7 f1 f2 f3 f4 f6 f7
 go_enter Tryz.func42,Tryz.ntmps42
 go_wp2_with fail
 go_ret
 exact ⟨rfl,_,_,_,_,HS.out⟩
set_option maxHeartbeats 4000000 in
set_option maxRecDepth 100000 in
theorem round_any (hL:Laid w0) (hT:TreeAt w0 t C) (hC:Chk C) (h:MsAt w0 t g C w vh ve vi vo X f) (hok:Okw C X) (h1:X.st=1) (hol:X.out.length≤900000) (k:Nat) (hk:f=k+1) (hf:f≤40) (ev:Int) :
 Calls Tryz.prog 42 #[.pointer (some ⟨g,0,none⟩),.int .i64 ev] w (RdPost w0 t g C (decide (rndL C ev X ≠ [])) (rndS C ev X) k):=by
 obtain ⟨iI,ki,kz0,kz1,kz2⟩:=info_parts Tryz.info3
 have KI:=Lib.hid ki
 have KZ0:=Lib.hid kz0
 have KZ1:=Lib.hid kz1
 have KZ2:=Lib.hid kz2
 have hta:=tame_of hC.chk
 have hro:=rooted_of hC.chk
 have hn:bset X.a C.sts.length < 4294967296:=bset_u32 _ (by have:=hta.len; omega)
 have HGA:=Lib.hid (fun (W:World) (hb:Below w0.heap.size w0 W) (hE:NumsAt W ve X.env)=>gather_any t (bset X.a C.sts.length) ve ev C X.env W (hL.after hb) (hT.below hb) hC.fewB hta hro hn hE (by have:=hok.el; have:=hC.vars; omega) hok.fit)
 have HSI:=Lib.hid (fun (W:World) (vl:Value) (l:List Int) (hb:Below w0.heap.size w0 W) (hv:ListAt W vl l) (hl:l.length≤800)=>sift_any t (bset X.a C.sts.length) vl l C W (hT.below hb) hC.fewB hta hro hn hv hl)
 have HGL:=Lib.hid (gaL_cnt C X.env ev (bset X.a C.sts.length))
 have HML:Hid ((gaL C X.env ev (bset X.a C.sts.length)).2≤36000):=Lib.hid (rndM_le hta hC.fewB ev X)
 have HIL:=Lib.hid (hok.il h1)
 have HCL:=Lib.hid hta.len
 have HRL:Hid (numsC (siL C (leftN C (bset X.a C.sts.length)) (gaL C X.env ev (bset X.a C.sts.length)).1)=rndL C ev X):=Lib.hid rfl
 have HRM:Hid ((gaL C X.env ev (bset X.a C.sts.length)).2=rndM C ev X):=Lib.hid rfl
 have HST:=Lib.hid (fun (W:World) (vi' vl:Value) (m:Nat) (hs:MsAt w0 t g C W vh ve vi' vo (X.addE m) k) (hm:m≤36000) (hv:ListAt W vl (rndL C ev X))=>mcstep_any hL hT hC hs hok.hl (by show X.env.length≤1000; have:=hok.el; have:=hC.vars; omega) hok.fit (by show (X.ins ++ List.replicate m 1001).length≤_; rw [List.length_append,List.length_replicate]; have:=hok.il h1; omega) (by show X.out.length≤_; omega) vl (rndL C ev X) hv (Nat.le_trans (rndL_len C ev X) hta.len) (rndL_tr C ev X))
 have HS:=Lib.hid h
 obtain ⟨x0,x1,x2,x3,x4,x5,x6,x7⟩:=h.cells
 obtain ⟨f1,f2,f3,f4,f5,f6,f7⟩:=h.froz
 have hz:(((f:Nat):Int) == 0)=false:=beq_false_of_ne (by omega)
 have hsub:IntKind.i64.wrap ((f:Int) - 1)=(k:Int):=by rw [IntKind.wrap_i64]; omega
 obtain ⟨hA,hcap,rfl⟩:=h.rows.hist.slice
 obtain ⟨eA,ecap,rfl⟩:=OwnEnv.slice h.rows.env
 obtain ⟨iA,icap,rfl⟩:=h.rows.ins.slice
 have HK:=Lib.hid hk
 clear hL hT hC h hok hta hro hn hol h1 hk hf ki kz0 kz1 kz2 x0 x1 x2 x3 x4 x5 x7
 go_enter Tryz.func42,Tryz.ntmps42
 go_wp2_with fail
 refine anyD_start (fun W=>W.cell? ⟨g,0,none⟩=some (.pointer (some ⟨t,0,none⟩))∧W.cell? ⟨g,1,none⟩=some (.int .u32 ((bset X.a C.sts.length:Nat):Int))∧W.cell? ⟨g,3,none⟩=some (.slice eA X.env.length ecap)) (fun i=>[].contains i) (by kernel_rfl) ?_
 try simp only [Act.put,sx]
 have HS1:=Lib.hid (HS.out.putF k).drew
 clear HS hz hsub x6 f1 f2 f3 f4 f5 f6 f7
 generalize (w.setCell ⟨g,6,none⟩ (.int .i64 (k:Int))).drew=w1 at *
 obtain ⟨x0,x1,x2,x3,x4,x5,x6,x7⟩:=HS1.out.cells
 refine anyD_t 0 (.pointer (some ⟨g,0,none⟩)) ?_
 try simp only [Act.put,sx]
 refine anyD_t 1 (.pointer (some ⟨g,0,none⟩)) ?_
 try simp only [Act.put,sx]
 refine anyD_t 2 (.pointer (some ⟨g,0,none⟩)) ?_
 try simp only [Act.put,sx]
 refine anyD_l 3 (.pointer (some ⟨t,0,none⟩)) (⟨x0,x1,x3⟩) ?_
 try simp only [Act.put,sx]
 refine anyD_t 4 (.pointer (some ⟨g,0,none⟩)) ?_
 try simp only [Act.put,sx]
 refine anyD_t 5 (.pointer (some ⟨g,0,none⟩)) ?_
 try simp only [Act.put,sx]
 refine anyD_t 6 (.pointer (some ⟨g,1,none⟩)) ?_
 try simp only [Act.put,sx]
 refine anyD_t 7 (.pointer (some ⟨g,1,none⟩)) ?_
 try simp only [Act.put,sx]
 refine anyD_l 8 (.int .u32 ((bset X.a C.sts.length:Nat):Int)) (⟨x0,x1,x3⟩) ?_
 try simp only [Act.put,sx]
 refine anyD_t 9 (.pointer (some ⟨g,0,none⟩)) ?_
 try simp only [Act.put,sx]
 refine anyD_t 10 (.pointer (some ⟨g,0,none⟩)) ?_
 try simp only [Act.put,sx]
 refine anyD_t 11 (.pointer (some ⟨g,1,none⟩)) ?_
 try simp only [Act.put,sx]
 refine anyD_t 12 (.pointer (some ⟨g,3,none⟩)) ?_
 try simp only [Act.put,sx]
 refine anyD_l 13 (.slice eA X.env.length ecap) (⟨x0,x1,x3⟩) ?_
 try simp only [Act.put,sx]
 refine anyD_t 14 (.int .i64 ev) ?_
 try simp only [Act.put,sx]
 refine anyD_one (i:=15) rfl rfl (by kernel_rfl) (fun K HK=>?_)
 go_simp
 refine (HGA.out w1 HS1.out.below (OwnEnv.nums HS1.out.rows.env)).mono ?_
 rintro e w2 ⟨hb2,v2,rfl,ho2⟩
 have HS2:=Lib.hid (HS1.out.after hb2)
 have HL2:=Lib.hid (list_of_own ho2)
 obtain ⟨gA,gcap,rfl⟩:=own_slice ho2
 clear hb2 ho2 HS1 HGA x0 x1 x2 x3 x4 x5 x6 x7
 obtain ⟨x0,x1,x2,x3,x4,x5,x6,x7⟩:=HS2.out.cells
 go_simp
 refine HK.out _ _ (fun _ hS=>⟨x0,x1,x3⟩) ?_
 clear HK K
 try simp only [Act.put,sx]
 refine anyD_t 16 (.tuple #[.slice gA (gaL C X.env ev (bset X.a C.sts.length)).1.length gcap,.int .i64 ((gaL C X.env ev (bset X.a C.sts.length)).2:Int)]) ?_
 try simp only [Act.put,sx]
 refine anyD_t 17 (.slice gA (gaL C X.env ev (bset X.a C.sts.length)).1.length gcap) ?_
 try simp only [Act.put,sx]
 refine anyD_t 18 (.int .i64 ((gaL C X.env ev (bset X.a C.sts.length)).2:Int)) ?_
 try simp only [Act.put,sx]
 refine anyD_one (i:=19) rfl rfl (by kernel_rfl) (fun K HK=>?_)
 go_simp
 refine HK.out _ _ (fun _ hS=>hS) ?_
 clear HK K
 try simp only [Act.put,sx]
 refine anyD_one (i:=20) rfl rfl (by kernel_rfl) (fun K HK=>?_)
 go_simp
 refine HK.out _ _ (fun _ hS=>hS) ?_
 clear HK K
 try simp only [Act.put,sx]
 refine anyD_done (by kernel_rfl) ?_
 have HSI2:=Lib.hid (fun (W:World) (hb:Below w2.heap.size w2 W)=>HSI.out W (.slice gA (gaL C X.env ev (bset X.a C.sts.length)).1.length gcap) (gaL C X.env ev (bset X.a C.sts.length)).1 (HS2.out.after hb).below (HL2.out.below hb) (by have:=HGL.out; have:=HCL.out; omega))
 rw [HRL.out] at HSI2
 clear HSI HL2 HGL HRL
 rw [HRM.out] at HML ⊢
 generalize (gaL C X.env ev (bset X.a C.sts.length)).1.length=gl at *
 generalize hM:rndM C ev X=M at *
 have HM:=Lib.hid hM
 clear hM HRM x0 x1 x2 x3 x4 x5 x6 x7
 have HB2:=Lib.hid (Below.refl w2.heap.size w2)
 go_wp2_with fail
 refine anyD_start (fun W=>W.cell? ⟨g,0,none⟩=some (.pointer (some ⟨t,0,none⟩))∧W.cell? ⟨g,1,none⟩=some (.int .u32 ((bset X.a C.sts.length:Nat):Int))) (fun i=>[].contains i) (by kernel_rfl) ?_
 try simp only [Act.put,sx]
 have HS3:=Lib.hid HS2.out.drew
 have HB3:=Lib.hid HB2.out.drew
 clear HS2 HB2
 generalize w2.drew=w3 at *
 obtain ⟨x0,x1,x2,x3,x4,x5,x6,x7⟩:=HS3.out.cells
 refine anyD_t 0 (.pointer (some ⟨g,0,none⟩)) ?_
 try simp only [Act.put,sx]
 refine anyD_t 1 (.pointer (some ⟨g,0,none⟩)) ?_
 try simp only [Act.put,sx]
 refine anyD_t 2 (.pointer (some ⟨g,0,none⟩)) ?_
 try simp only [Act.put,sx]
 refine anyD_l 3 (.pointer (some ⟨t,0,none⟩)) (⟨x0,x1⟩) ?_
 try simp only [Act.put,sx]
 refine anyD_t 4 (.pointer (some ⟨g,0,none⟩)) ?_
 try simp only [Act.put,sx]
 refine anyD_t 5 (.pointer (some ⟨g,0,none⟩)) ?_
 try simp only [Act.put,sx]
 refine anyD_t 6 (.pointer (some ⟨g,1,none⟩)) ?_
 try simp only [Act.put,sx]
 refine anyD_t 7 (.pointer (some ⟨g,1,none⟩)) ?_
 try simp only [Act.put,sx]
 refine anyD_l 8 (.int .u32 ((bset X.a C.sts.length:Nat):Int)) (⟨x0,x1⟩) ?_
 try simp only [Act.put,sx]
 refine anyD_t 9 (.slice gA gl gcap) ?_
 try simp only [Act.put,sx]
 refine anyD_one (i:=10) rfl rfl (by kernel_rfl) (fun K HK=>?_)
 go_simp
 refine (HSI2.out w3 HB3.out).mono ?_
 rintro e w4 ⟨hb4,v4,rfl,ho4⟩
 have HD4:Hid (Side w4 w3.heap.size v4 (.slice iA X.ins.length icap) (rndL C ev X)):=Lib.hid ⟨ho4,by
  cases hv:v4.ownBlock with
  | none=>exact .inl rfl
  | some k =>
   refine .inr fun hc=>?_
   have h1:=(ho4.lt k hv).1
   have h2:=(HS3.out.rows.ins.lt k hc.symm).2
   omega⟩
 have HS4:=Lib.hid (HS3.out.after hb4)
 obtain ⟨kA,kcap,rfl⟩:=own_slice ho4
 clear hb4 ho4 HS3 HB3 HSI2 x0 x1 x2 x3 x4 x5 x6 x7
 obtain ⟨x0,x1,x2,x3,x4,x5,x6,x7⟩:=HS4.out.cells
 go_simp
 refine HK.out _ _ (fun _ hS=>⟨x0,x1⟩) ?_
 clear HK K
 try simp only [Act.put,sx]
 refine anyD_one (i:=11) rfl rfl (by kernel_rfl) (fun K HK=>?_)
 go_simp
 refine HK.out _ _ (fun _ hS=>hS) ?_
 clear HK K
 try simp only [Act.put,sx]
 refine anyD_done (by kernel_rfl) ?_
 clear x0 x1 x2 x3 x4 x5 x6 x7
 have HX0:=Lib.hid (addE_zero X)
 have HXS:=Lib.hid (addE_succ X)
 have HR:Hid (rndS C ev X=capI (stepL C (rndL C ev X) (X.addE M))):=Lib.hid (by rw [← HM.out]; rfl)
 generalize rndL C ev X=l at *
 obtain ⟨q,hq⟩:∃ q,l.length=q:=⟨_,rfl⟩
 have HQ:=Lib.hid hq
 rw [hq]
 rw [hq] at HD4
 clear hq
 go_wp2_with fail
 go_loopw [54] (fun i wr=>∃ (m:Nat) (vi':Value),m≤M∧i=.int .i64 (m:Int)∧Hid (MsAt w0 t g C wr (.slice hA X.hist.length hcap) (.slice eA X.env.length ecap) vi' vo (X.addE m) k)∧Hid (Side wr w3.heap.size (.slice kA q kcap) vi' l)) (fun i _=>M - (intOf i).toNat)
 case atStart=>exact ⟨0,_,Nat.zero_le _,rfl,Lib.hid (by rw [HX0.out]; exact HS4.out),HD4⟩
 case round =>
  clear HS4 HD4 HX0
  obtain ⟨m,vi5,hm,rfl,HSK,HDK⟩:=hrel
  obtain ⟨wo,rfl⟩:∃ wo:World,wo=wr:=⟨_,rfl⟩
  have hM36:=HML.out
  by_cases hlt:m < M
  · obtain ⟨A5,c5,rfl⟩:=HSK.out.rows.ins.slice
    have HBX:=below_box wo (.cells #[.int .i64 1001] 3)
    have HS6:=Lib.hid (HSK.out.after HBX)
    have HD6:=Lib.hid (HDK.out.below HBX)
    have HN6:=Lib.hid ((Blk.new wo 3 #[.int .i64 1001]).cell 0)
    have hil:(X.addE m).ins.length≤40000:=by
     show (X.ins ++ List.replicate m 1001).length≤_
     rw [List.length_append,List.length_replicate]
     have:=HIL.out
     have:=HML.out
     omega
    have HAI:=Lib.hid hil
    have HXM:=Lib.hid (HXS.out m)
    clear HBX hil
    generalize hY:X.addE m=Y at *
    have HYA:Hid (⟨Y.a,Y.hist,Y.env,Y.ins ++ [1001],Y.st,Y.out⟩=X.addE (m+1)):=Lib.hid (by rw [HXM.out,← hY]; rfl)
    clear hY
    obtain ⟨x0,x1,x2,x3,x4,x5,x6,x7⟩:=HS6.out.cells
    obtain ⟨f1,f2,f3,f4,f5,f6,f7⟩:=HS6.out.froz
    have y4:=HSK.out.cells.2.2.2.2.1
    clear HSK HDK HXS x0 x1 x2 x3 x5 x6 x7 f1 f2 f3 f5 f6 f7
    go_wp2_with (at_builtin; refine wpList_append_in rfl _ _ 36 rfl w0.heap.size 3 iI (.int .i64 0) 8 Tryz.underlying36 KI.out KZ0.out KZ1.out KZ2.out rfl _ Y.ins rfl HS6.out.rows.ins ⟨wo.heap.size,0,none⟩ 1 1001 rfl HN6.out ?c3 ?c4 ?c5 ?_)
    case c3=>have:=HAI.out; unfold maxLen; omega
    case c4=>have:=HAI.out; omega
    case c5=>exact HS6.out.lt
    intro v7 w7 hin7 hg7 hn7
    obtain ⟨A7,c7,rfl⟩:=hin7.slice
    have HS7:=Lib.hid (HS6.out.growI hg7 hin7)
    have hb7:=HS6.out.growI0 hg7 hin7
    have HD7:=Lib.hid ((HD6.out.grown hg7 (by simpa using hn7)).apart hb7 (by decide) 4 (.slice A7 (Y.ins ++ [1001]).length c7))
    have z4:=hb7.cell 4
    have g4:=hb7.frozen 4
    rw [HYA.out] at HS7
    simp only [List.length_append,List.length_singleton] at HS7 HD7 z4
    clear hin7 hg7 hn7 hb7 HS6 HD6 HN6 x4 f4 y4
    go_wp2_with fail
    go_roundw
    case rel=>exact ⟨m+1,_,by omega,by go_num,HS7,HD7⟩
    case measure=>simp [intOf]; omega
  · obtain rfl:M=m:=by omega
    have HLS:=Lib.hid (list_of_own HDK.out.1)
    by_cases hl:l=[]
    · have hq0:q=0:=by rw [← HQ.out,hl]; rfl
      subst hq0
      have HR2:Hid (rndS C ev X=capI (X.addE M)):=Lib.hid (by rw [HR.out,hl]; rfl)
      have HBF:Hid (decide (l ≠ [])=false):=Lib.hid (decide_eq_false (fun h=>h hl))
      have HSZ:=HSK
      clear hl HSK HDK HST HR HLS HXS
      generalize X.addE M=Z at *
      obtain ⟨A9,c9,rfl⟩:=HSZ.out.rows.ins.slice
      obtain ⟨x0,x1,x2,x3,x4,x5,x6,x7⟩:=HSZ.out.cells
      obtain ⟨f1,f2,f3,f4,f5,f6,f7⟩:=HSZ.out.froz
      obtain ⟨z,hz⟩:∃ z,Z.ins.length=z:=⟨_,rfl⟩
      have HZ:=Lib.hid hz
      rw [hz] at x4
      clear hz x0 x1 x2 x3 x6 x7 f1 f2 f3 f4 f6 f7
      by_cases hi:50 < z
      · have HSC:=Lib.hid (HSZ.out.putSt 3)
        have HCP:Hid (capI Z=Z.putSt 3):=Lib.hid (by unfold capI; rw [if_pos (by rw [HZ.out]; exact hi)])
        have hlb:decide ((50:Int) < (z:Int))=true:=decide_eq_true (by omega)
        clear hi HSZ
        go_wp2_with fail
        go_ret
        exact ⟨by rw [HBF.out]; rfl,_,_,_,_,by rw [HR2.out,HCP.out]; exact HSC.out⟩
      · have HCP:Hid (capI Z=Z):=Lib.hid (by unfold capI; rw [if_neg (by rw [HZ.out]; exact hi)])
        have hlb:decide ((50:Int) < (z:Int))=false:=decide_eq_false (by omega)
        clear hi
        go_wp2_with fail
        go_ret
        exact ⟨by rw [HBF.out]; rfl,_,_,_,_,by rw [HR2.out,HCP.out]; exact HSZ.out⟩
    · have hqp:0 < q:=by rw [← HQ.out]; exact List.length_pos_iff.2 hl
      have HBT:Hid (decide (l ≠ [])=true):=Lib.hid (decide_eq_true hl)
      have HR2:Hid (rndS C ev X=capI (stpO C l (X.addE M))):=Lib.hid (by rw [HR.out]; unfold stepL; rw [if_neg hl])
      clear hl
      go_wp2_with fail
      refine (HST.out wo _ _ M HSK.out HML.out HLS.out).mono ?_
      rintro e w9 ⟨rfl,vh9,ve9,vi9,vo9,hs9⟩
      have HSZ:=Lib.hid hs9
      clear hs9 HSK HDK HST HR HLS HXS
      generalize stpO C l (X.addE M)=Z at *
      obtain ⟨A9,c9,rfl⟩:=HSZ.out.rows.ins.slice
      obtain ⟨x0,x1,x2,x3,x4,x5,x6,x7⟩:=HSZ.out.cells
      obtain ⟨f1,f2,f3,f4,f5,f6,f7⟩:=HSZ.out.froz
      obtain ⟨z,hz⟩:∃ z,Z.ins.length=z:=⟨_,rfl⟩
      have HZ:=Lib.hid hz
      rw [hz] at x4
      clear hz x0 x1 x2 x3 x6 x7 f1 f2 f3 f4 f6 f7
      by_cases hi:50 < z
      · have HSC:=Lib.hid (HSZ.out.putSt 3)
        have HCP:Hid (capI Z=Z.putSt 3):=Lib.hid (by unfold capI; rw [if_pos (by rw [HZ.out]; exact hi)])
        have hlb:decide ((50:Int) < (z:Int))=true:=decide_eq_true (by omega)
        clear hi HSZ
        go_wp2_with fail
        go_ret
        exact ⟨by rw [HBT.out]; rfl,_,_,_,_,by rw [HR2.out,HCP.out]; exact HSC.out⟩
      · have HCP:Hid (capI Z=Z):=Lib.hid (by unfold capI; rw [if_neg (by rw [HZ.out]; exact hi)])
        have hlb:decide ((50:Int) < (z:Int))=false:=decide_eq_false (by omega)
        clear hi
        go_wp2_with fail
        go_ret
        exact ⟨by rw [HBT.out]; rfl,_,_,_,_,by rw [HR2.out,HCP.out]; exact HSZ.out⟩
end

theorem stl_stop {C:Ch} {k:Nat} {X:Se} (f:Nat) (h:X.st ≠ 1):stlF C k X f=X:=by
 cases k with
 | zero=>rfl
 | succ k=>rw [stlF,if_pos h]
theorem stl_more {C:Ch} {k f:Nat} {X:Se} (h:X.st=1) (hq:(rndF C 0 X f).1=true ∨ (rndF C 0 X f).2.1.st ≠ 1):stlF C (k+1) X f=stlF C k (rndF C 0 X f).2.1 (rndF C 0 X f).2.2:=by
 rw [stlF,if_neg (fun hh=>hh h)]
 simp only
 rw [if_pos hq]
theorem stl_done {C:Ch} {k f:Nat} {X:Se} (h:X.st=1) (h1:(rndF C 0 X f).1=false) (h2:(rndF C 0 X f).2.1.st=1) (h3:(rndF C 0 X f).2.1.ins=[]):stlF C (k+1) X f=(rndF C 0 X f).2.1:=by
 rw [stlF,if_neg (fun hh=>hh h)]
 simp only
 rw [if_neg (by rw [h1,h2]; simp),if_pos h3]
theorem stl_take {C:Ch} {k f:Nat} {X:Se} {x:Int} {L:List Int} (h:X.st=1) (h1:(rndF C 0 X f).1=false) (h2:(rndF C 0 X f).2.1.st=1) (h3:(rndF C 0 X f).2.1.ins=x :: L) :
 stlF C (k+1) X f=stlF C k (rndF C x (rndF C 0 X f).2.1.dropI (rndF C 0 X f).2.2).2.1 (rndF C x (rndF C 0 X f).2.1.dropI (rndF C 0 X f).2.2).2.2:=by
 rw [stlF,if_neg (fun hh=>hh h)]
 simp only
 rw [if_neg (by rw [h1,h2]; simp),if_neg (by rw [h3]; simp),h3]
 rfl
theorem rndF_fuel (C:Ch) (ev:Int) (X:Se) (f:Nat):(rndF C ev X f).2.2≤f∧((rndF C ev X f).2.1.st=1→(rndF C ev X f).2.2 < f):=by
 unfold rndF
 split
 · exact ⟨Nat.zero_le _,fun h=>absurd h (by show (3:Int) ≠ 1; decide)⟩
 · exact ⟨Nat.sub_le _ _,fun _=>by show f - 1 < f; omega⟩
theorem capI_out (X:Se):(capI X).out=X.out:=by
 unfold capI
 split <;> rfl
theorem rndS_out {C:Ch} (hC:Chk C) {X:Se} (h:Okw C X) (h1:X.st=1) (ev:Int):(rndS C ev X).out.length≤X.out.length+10000:=by
 have hT:=tame_of hC.chk
 have hm:=rndM_le hT hC.fewB ev X
 have hi:=h.il h1
 unfold rndS
 rw [capI_out]
 unfold stepL
 split
 · exact Nat.le_add_right _ _
 · have hlm:=(stpS_lim hC.few (rndL C ev X) (n:=0) (X:=⟨bitN (cfN C (X.addE (rndM C ev X))),padH C.sts.length X.hist,X.env,(X.addE (rndM C ev X)).ins,X.st,[]⟩) ⟨by show X.env.length≤1000; have:=h.el; have:=hC.vars; omega,h.fit,by simp,by
    show (X.ins ++ List.replicate (rndM C ev X) (1001:Int)).length≤_
    rw [List.length_append,List.length_replicate]
    omega⟩).out
   have hll:=rndL_len C ev X
   have hsl:=hT.len
   show (X.out ++ (stpS C (rndL C ev X) ⟨bitN (cfN C (X.addE (rndM C ev X))),padH C.sts.length X.hist,X.env,(X.addE (rndM C ev X)).ins,X.st,[]⟩).out).length≤_
   rw [List.length_append]
   omega
theorem rndF_out {C:Ch} (hC:Chk C) {X:Se} (h:Okw C X) (h1:X.st=1) (ev:Int) (f:Nat) {B:Nat} (hB:X.out.length+10000 * f≤B):(rndF C ev X f).2.1.out.length+10000 * (rndF C ev X f).2.2≤B:=by
 unfold rndF
 split
 · show X.out.length+10000 * 0≤B
   omega
 · rename_i hf
   have:=rndS_out hC h h1 ev
   show (rndS C ev X).out.length+10000 * (f - 1)≤B
   omega
def Okb (C:Ch) (X:Se) (f:Nat):Prop:=Okw C X∧f≤40∧X.out.length+10000 * f≤500000
theorem Okb.round {C:Ch} (hC:Chk C) {X:Se} {f:Nat} (h:Okb C X f) (h1:X.st=1) (ev:Int):Okb C (rndF C ev X f).2.1 (rndF C ev X f).2.2 :=
 ⟨h.1.roundF hC h1 ev f,Nat.le_trans (rndF_fuel C ev X f).1 h.2.1,rndF_out hC h.1 h1 ev f h.2.2⟩
theorem Okb.dropI {C:Ch} {X:Se} {f:Nat} (h:Okb C X f):Okb C X.dropI f:=⟨h.1.dropI,h.2.1,h.2.2⟩
def Gas (X:Se) (f k:Nat):Prop:=(X.st=1→f+2≤k)∧1≤k
theorem Gas.round {C:Ch} {X:Se} {f k:Nat} (h:Gas X f (k+1)) (h1:X.st=1) (ev:Int):Gas (rndF C ev X f).2.1 (rndF C ev X f).2.2 k:=by
 have h2:=h.1 h1
 have h3:=rndF_fuel C ev X f
 exact ⟨fun h4=>by have:=h3.2 h4; omega,by omega⟩
theorem Gas.take {C:Ch} {X:Se} {f k:Nat} (h:Gas X f (k+1)) (h1:X.st=1) (h2:(rndF C 0 X f).2.1.st=1) (x:Int):Gas (rndF C x (rndF C 0 X f).2.1.dropI (rndF C 0 X f).2.2).2.1 (rndF C x (rndF C 0 X f).2.1.dropI (rndF C 0 X f).2.2).2.2 k:=by
 have h3:=h.1 h1
 have h4:=(rndF_fuel C 0 X f).2 h2
 have h5:=rndF_fuel C x (rndF C 0 X f).2.1.dropI (rndF C 0 X f).2.2
 exact ⟨fun h6=>by have:=h5.2 h6; omega,by omega⟩
def goN (X:Se) (f:Nat):Nat:=f+if X.st=1 then 1 else 0
theorem goN_round {C:Ch} {X:Se} {f:Nat} (h1:X.st=1) (ev:Int):goN (rndF C ev X f).2.1 (rndF C ev X f).2.2 < goN X f:=by
 have h3:=rndF_fuel C ev X f
 unfold goN
 rw [if_pos h1]
 split
 · rename_i h
   have:=h3.2 h
   omega
 · omega

section
variable {w0:World} {t g:Nat} {C:Ch} {w:World} {vh ve vi vo:Value} {X:Se} {f:Nat}
theorem roundF_any (hL:Laid w0) (hT:TreeAt w0 t C) (hC:Chk C) (h:MsAt w0 t g C w vh ve vi vo X f) (hok:Okb C X f) (h1:X.st=1) (ev:Int) :
 Calls Tryz.prog 42 #[.pointer (some ⟨g,0,none⟩),.int .i64 ev] w (RdPost w0 t g C (rndF C ev X f).1 (rndF C ev X f).2.1 (rndF C ev X f).2.2):=by
 cases f with
 | zero=>exact round_zero h ev
 | succ k=>exact round_any hL hT hC h hok.1 h1 (by have:=hok.2.2; omega) k rfl hok.2.1 ev
def cellInt (w:World) (g j:Nat):Int:=match w.cell? ⟨g,j,none⟩ with
 | some (.int _ n)=>n
 | _=>0
def leftOf (w:World) (g:Nat):Nat:=(cellInt w g 6).toNat+if cellInt w g 5=1 then 1 else 0
theorem left_is (h:MsAt w0 t g C w vh ve vi vo X f):leftOf w g=goN X f:=by
 obtain ⟨x0,x1,x2,x3,x4,x5,x6,x7⟩:=h.cells
 unfold leftOf cellInt goN
 rw [x5,x6]
 rfl
def SePost (w0:World) (t g:Nat) (C:Ch) (R:Se) (e:Ending) (w':World):Prop:=e=.returned (.tuple #[])∧∃ f vh ve vi vo,MsAt w0 t g C w' vh ve vi vo R f∧R.out.length≤500000
set_option maxHeartbeats 4000000 in
set_option maxRecDepth 100000 in
theorem settle_any (hL:Laid w0) (hT:TreeAt w0 t C) (hC:Chk C) (h:MsAt w0 t g C w vh ve vi vo X f) (hok:Okb C X f) {k:Nat} (hk:Gas X f k) :
 Calls Tryz.prog 32 #[.pointer (some ⟨g,0,none⟩)] w (SePost w0 t g C (stlF C k X f)):=by
 obtain ⟨R,hR⟩:∃ R,stlF C k X f=R:=⟨_,rfl⟩
 rw [hR]
 have HR:=Lib.hid hR
 have HS:=Lib.hid h
 have HO:=Lib.hid hok
 have HK:=Lib.hid hk
 have HRD:=Lib.hid (fun (W:World) (vh ve vi vo:Value) (Y:Se) (n:Nat) (ev:Int) (hs:MsAt w0 t g C W vh ve vi vo Y n) (ho:Okb C Y n) (h1:Y.st=1)=>roundF_any hL hT hC hs ho h1 ev)
 have HCC:=Lib.hid hC
 clear hL hT hC h hok hk hR
 go_enter Tryz.func32,Tryz.ntmps32
 go_wp2_with fail
 go_loopw [] (fun wr=>∃ (Y:Se) (n j:Nat) (vh ve vi vo:Value),Hid (MsAt w0 t g C wr vh ve vi vo Y n)∧Hid (Okb C Y n)∧Hid (Gas Y n j)∧Hid (stlF C j Y n=R)) (fun wr=>leftOf wr g)
 case atStart=>exact ⟨X,f,k,_,_,_,_,HS,HO,HK,HR⟩
 case round =>
  clear HS HO HK HR
  obtain ⟨Y,n,j,vh,ve,vi,vo,HS,HO,HK,HR⟩:=hrel
  obtain ⟨wo,rfl⟩:∃ wo:World,wo=wr:=⟨_,rfl⟩
  have HLF:=Lib.hid (left_is HS.out)
  go_wp2_with fail
  refine (isGoing_any HS.out).mono ?_
  rintro e w1 ⟨rfl,hb1⟩
  have HS1:=Lib.hid (HS.out.after hb1)
  clear hb1 HS
  by_cases h1:Y.st=1
  · have HH1:=Lib.hid h1
    rw [decide_eq_true h1]
    clear h1
    obtain ⟨i,rfl⟩:∃ i,j=i+1:=⟨j - 1,by have:=HK.out.2; omega⟩
    go_wp2_with fail
    refine (HRD.out w1 _ _ _ _ Y n 0 HS1.out HO.out HH1.out).mono ?_
    rintro e w2 ⟨rfl,vh2,ve2,vi2,vo2,hs2⟩
    have HS2:=Lib.hid hs2
    have HO2:=Lib.hid (HO.out.round HCC.out HH1.out 0)
    have HN2:=Lib.hid (goN_round (C:=C) (f:=n) HH1.out 0)
    clear hs2 HS1
    cases hb:(rndF C 0 Y n).1 with
    | true =>
     have HB:=Lib.hid hb
     clear hb
     go_wp2_with fail
     go_roundw
     case rel=>exact ⟨_,_,i,_,_,_,_,HS2,HO2,Lib.hid (HK.out.round HH1.out 0),Lib.hid (by rw [← stl_more HH1.out (.inl HB.out)]; exact HR.out)⟩
     case measure=>rw [left_is HS2.out,HLF.out]; exact HN2.out
    | false =>
     have HB:=Lib.hid hb
     clear hb
     go_wp2_with fail
     refine (isGoing_any HS2.out).mono ?_
     rintro e w3 ⟨rfl,hb3⟩
     have HS3:=Lib.hid (HS2.out.after hb3)
     clear hb3 HS2
     by_cases h2:(rndF C 0 Y n).2.1.st=1
     · have HH2:=Lib.hid h2
       rw [decide_eq_true h2]
       clear h2
       obtain ⟨A3,c3,rfl⟩:=HS3.out.rows.ins.slice
       obtain ⟨x0,x1,x2,x3,x4,x5,x6,x7⟩:=HS3.out.cells
       clear x0 x1 x2 x3 x5 x6 x7
       obtain ⟨L,hL⟩:∃ L,(rndF C 0 Y n).2.1.ins=L:=⟨_,rfl⟩
       have HL:=Lib.hid hL
       rw [hL] at x4
       clear hL
       cases L with
       | nil =>
        rw [List.length_nil] at x4
        go_wp2_with fail
        go_end0
        exact ⟨rfl,_,_,_,_,_,by rw [← HR.out,stl_done HH1.out HB.out HH2.out HL.out]; exact HS3.out,by rw [← HR.out,stl_done HH1.out HB.out HH2.out HL.out]; have:=HO2.out.2.2; omega⟩
       | cons x L =>
        rw [List.length_cons] at x4
        have hz:(((L.length+1:Nat):Int) == 0)=false:=beq_false_of_ne (by omega)
        have HTK:=Lib.hid (takeOut_any HS3.out HL.out)
        generalize L.length+1=q at *
        go_wp2_with fail
        refine HTK.out.mono ?_
        rintro e w4 ⟨rfl,vi4,hs4⟩
        have HS4:=Lib.hid hs4
        clear hs4 HTK x4 hz HS3
        go_wp2_with fail
        refine (HRD.out w4 _ _ _ _ _ _ x HS4.out HO2.out.dropI HH2.out).mono ?_
        rintro e w5 ⟨rfl,vh5,ve5,vi5,vo5,hs5⟩
        have HS5:=Lib.hid hs5
        clear hs5 HS4
        go_wp2_with fail
        go_roundw
        case rel=>exact ⟨_,_,i,_,_,_,_,HS5,Lib.hid (HO2.out.dropI.round HCC.out HH2.out x),Lib.hid (HK.out.take HH1.out HH2.out x),Lib.hid (by rw [← stl_take HH1.out HB.out HH2.out HL.out]; exact HR.out)⟩
        case measure =>
         rw [left_is HS5.out,HLF.out]
         exact Nat.lt_trans (goN_round (C:=C) (X:=(rndF C 0 Y n).2.1.dropI) HH2.out x) HN2.out
     · have HH2:=Lib.hid h2
       rw [decide_eq_false h2]
       clear h2
       go_wp2_with fail
       go_roundw
       case rel=>exact ⟨_,_,i,_,_,_,_,HS3,HO2,Lib.hid (HK.out.round HH1.out 0),Lib.hid (by rw [← stl_more HH1.out (.inr HH2.out)]; exact HR.out)⟩
       case measure=>rw [left_is HS3.out,HLF.out]; exact HN2.out
  · have HH1:=Lib.hid h1
    rw [decide_eq_false h1]
    clear h1
    go_wp2_with fail
    go_end0
    exact ⟨rfl,_,_,_,_,_,by rw [← HR.out,stl_stop n HH1.out]; exact HS1.out,by rw [← HR.out,stl_stop n HH1.out]; have:=HO.out.2.2; omega⟩
end
end Go.Proofs.YtmhkpjcdkjnlnaaGreatDoor
