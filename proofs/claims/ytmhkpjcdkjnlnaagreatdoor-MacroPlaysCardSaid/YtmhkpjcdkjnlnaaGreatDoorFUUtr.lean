/- The head of layer 12's statements (spinetlaw12.up): it holds. -/
import Derived.Test.YtmhkpjcdkjnlnaaGreatDoorFUIbf
import Derived.Test.YtmhkpjcdkjnlnaaGreatDoorFUIdn
import Derived.Test.YtmhkpjcdkjnlnaaGreatDoorFUPkind
import Derived.Test.YtmhkpjcdkjnlnaaGreatDoorFUHpure
import Derived.Test.YtmhkpjcdkjnlnaaGreatDoorFUSbl
import Derived.Test.YtmhkpjcdkjnlnaaGreatDoorFUSwo
import Derived.Test.YtmhkpjcdkjnlnaaGreatDoorFUArw
import Derived.Test.YtmhkpjcdkjnlnaaGreatDoorFUCact
import Derived.Test.YtmhkpjcdkjnlnaaGreatDoorFUPlev
import Derived.Deep.RegionWith
import Derived.Test.YtmhkpjcdkjnlnaaGreatDoorFUTmay
import Derived.Test.YtmhkpjcdkjnlnaaGreatDoorFUZlaid
import Derived.Test.YtmhkpjcdkjnlnaaGreatDoorFUIst
import Derived.Test.YtmhkpjcdkjnlnaaGreatDoorFUUtk
import Derived.Test.YtmhkpjcdkjnlnaaGreatDoorFUCarg
namespace Go.Proofs.YtmhkpjcdkjnlnaaGreatDoor
open Go.ChangeShapes Go.WideShapes Go.ChangeAt Go.RowKit
set_option linter.unusedVariables false

theorem npost_no {C:Ch} {w w':World} {e:Ending} (h:NPost C w e w') (hn:¬ chk hasTB C=.ok):Below w.heap.size w w'∧((∃ p,e=.returned (.tuple #[.pointer none,.iface 82 p])) ∨ ∃ p,e=.returned (.tuple #[.pointer none,.iface 106 p])):=by
 unfold NPost at h
 cases hc:chk hasTB C with
 | ok=>exact absurd hc hn
 | large =>
  rw [hc] at h
  exact ⟨h.1,.inl ⟨_,h.2⟩⟩
 | spot k c =>
  rw [hc] at h
  obtain ⟨hb,g,he,_⟩:=h
  exact ⟨hb,.inr ⟨_,he⟩⟩
theorem npost_yes {C:Ch} {w w':World} {e:Ending} (h:NPost C w e w') (hk:chk hasTB C=.ok):Below w.heap.size w w'∧∃ g,e=.returned (.tuple #[.pointer (some ⟨g,0,none⟩),.nilIface])∧w.heap.size≤g∧TreeAt w' g C:=by
 unfold NPost at h
 rw [hk] at h
 exact h

set_option maxHeartbeats 4000000 in
set_option maxRecDepth 100000 in
theorem ints_same2 (v u:Value) (L:List Int) (w:World) (hv:ListAt w v L) (hu:ListAt w u L) (hl:L.length≤1000000) :
 Calls Tryz.prog 36 #[v,u] w fun e w'=>e=.returned (.bool true)∧Below w.heap.size w w':=by
 obtain ⟨A,cap,rfl,hcap,he⟩:=hv
 obtain ⟨A',cap',rfl,hcap',he'⟩:=hu
 have HE:=Lib.hid he
 have HE':=Lib.hid he'
 clear he he'
 go_enter Tryz.func36,Tryz.ntmps36
 go_wp2_with fail
 go_loopw [5] (fun i wr=>∃ k:Nat,k≤L.length∧i=.int .i64 (k:Int)∧Below w.heap.size w wr) (fun i _=>L.length - (intOf i).toNat)
 case atStart=>exact ⟨0,Nat.zero_le _,rfl,Below.refl _ _⟩
 case round =>
  obtain ⟨k,hk,rfl,hb⟩:=hrel
  obtain ⟨wo,rfl⟩:∃ wo:World,wo=wr:=⟨_,rfl⟩
  by_cases hlt:k < L.length
  · obtain ⟨b,o,rfl,hbl,hc⟩:=HE.out k _ (List.getElem?_eq_getElem hlt)
    obtain ⟨b',o',rfl,hbl',hc'⟩:=HE'.out k _ (List.getElem?_eq_getElem hlt)
    have c0:wo.cell? ⟨b,o+k,none⟩=some (.int .i64 L[k]):=by have:=IntAt.keeps w wo b _ _ hb hbl hc; rwa [Nat.mul_one] at this
    have c0':wo.cell? ⟨b',o'+k,none⟩=some (.int .i64 L[k]):=by have:=IntAt.keeps w wo b' _ _ hb hbl' hc'; rwa [Nat.mul_one] at this
    generalize L[k]=x at *
    have HB:=Lib.hid hb
    have hxx:(x != x)=false:=by simp
    clear hc hc' hb
    go_wp2_with fail
    go_quiet (fail)
    go_wp2
    go_roundw
    case rel=>exact ⟨k+1,by omega,by go_num,below_drewN HB.out _⟩
    case measure=>simp [intOf]; omega
  · obtain rfl:k=L.length:=by omega
    go_wp2_with fail
    go_ret
    exact ⟨rfl,hb⟩
set_option maxHeartbeats 4000000 in
set_option maxRecDepth 100000 in
theorem same12_any (va vb:Value) (n:Nat) (X:Se) (w:World) (ha:RunAt w n va X) (hb:RunAt w n vb X) (hHl:X.hist.length≤1000) (hEl:X.env.length≤1000) (hIl:X.ins.length≤1000000) :
 Calls Tryz.prog 11 #[va,vb] w fun e w'=>e=.returned (.bool true)∧Below w.heap.size w w':=by
 obtain ⟨av,H,E,I,st,O⟩:=X
 obtain ⟨vh,ve,vi,rfl,h1,h2,h3⟩:=ha
 obtain ⟨uh,ue,ui,rfl,k1,k2,k3⟩:=hb
 dsimp only at h1 h2 h3 k1 k2 k3 hHl hEl hIl ⊢
 obtain ⟨hA,hcap,rfl,hhe⟩:=RowsAt.slice h1
 obtain ⟨eA,ecap,rfl,hee⟩:=RowsAt.slice (rows_of_nums h2)
 obtain ⟨iA,icap,rfl,hie⟩:=RowsAt.slice h3
 obtain ⟨hA2,hcap2,rfl,khe⟩:=RowsAt.slice k1
 obtain ⟨eA2,ecap2,rfl,kee⟩:=RowsAt.slice (rows_of_nums k2)
 obtain ⟨iA2,icap2,rfl,kie⟩:=RowsAt.slice k3
 have HH:=Lib.hid h1
 have HK:=Lib.hid k1
 have HNS:=Lib.hid (fun (W:World) (h:Below w.heap.size w W)=>nums_same _ _ E W (h2.below h) (k2.below h) hEl)
 have HIS:=Lib.hid (fun (W:World) (h:Below w.heap.size w W)=>ints_same2 _ _ I W (h3.below h) (k3.below h) hIl)
 obtain ⟨N,hN⟩:∃ N:Int,((bset av n:Nat):Int)=N:=⟨_,rfl⟩
 rw [hN]
 have hnn:(N != N)=false:=by simp
 have hss:(st != st)=false:=by simp
 have hb0:Below w.heap.size w ((w.alloc (.cells #[.int .u32 N,.slice hA H.length hcap,.slice eA E.length ecap,.slice iA I.length icap,.int .i64 st] 38)).alloc (.cells #[.int .u32 N,.slice hA2 H.length hcap2,.slice eA2 E.length ecap2,.slice iA2 I.length icap2,.int .i64 st] 38)):=(below_box w _).alloc (by simp) _
 have hx0:=(Blk.new w 38 #[.int .u32 N,.slice hA H.length hcap,.slice eA E.length ecap,.slice iA I.length icap,.int .i64 st]).alloc (.cells #[.int .u32 N,.slice hA2 H.length hcap2,.slice eA2 E.length ecap2,.slice iA2 I.length icap2,.int .i64 st] 38)
 have hy0:=Blk.new_at (w.alloc (.cells #[.int .u32 N,.slice hA H.length hcap,.slice eA E.length ecap,.slice iA I.length icap,.int .i64 st] 38)) 38 #[.int .u32 N,.slice hA2 H.length hcap2,.slice eA2 E.length ecap2,.slice iA2 I.length icap2,.int .i64 st] (w.heap.size+1) (by simp)
 have HB0:=Lib.hid hb0
 have HX0:=Lib.hid hx0
 have HY0:=Lib.hid hy0
 clear h1 h2 h3 k1 k2 k3 hN hb0 hx0 hy0 hhe hee hie khe kee kie
 go_enter Tryz.func11,Tryz.ntmps11
 go_wp2_with fail
 generalize (w.alloc (.cells #[.int .u32 N,.slice hA H.length hcap,.slice eA E.length ecap,.slice iA I.length icap,.int .i64 st] 38)).alloc (.cells #[.int .u32 N,.slice hA2 H.length hcap2,.slice eA2 E.length ecap2,.slice iA2 I.length icap2,.int .i64 st] 38)=w1 at *
 have h1s:w.heap.size≤w1.heap.size:=HB0.out.size
 go_loopw [5] (fun i wr=>∃ k:Nat,k≤H.length∧i=.int .i64 (k:Int)∧Below w1.heap.size w1 wr) (fun i _=>H.length - (intOf i).toNat)
 case atStart=>exact ⟨0,Nat.zero_le _,rfl,Below.refl _ _⟩
 case round =>
  obtain ⟨k,hk,rfl,hb⟩:=hrel
  obtain ⟨wo,rfl⟩:∃ wo:World,wo=wr:=⟨_,rfl⟩
  obtain ⟨⟨x0,x1,x2,x3,x4⟩,-⟩:=blk5_facts (HX0.out.below hb HX0.out.lt)
  obtain ⟨⟨y0,y1,y2,y3,y4⟩,-⟩:=blk5_facts (HY0.out.below hb HY0.out.lt)
  have HB:=Lib.hid hb
  have HBW:Hid (Below w.heap.size w wo):=Lib.hid (HB0.out.trans (hb.mono h1s))
  by_cases hlt:k < H.length
  · obtain ⟨_,_,q1,_,q3⟩:=HH.out.below HBW.out
    injection q1 with e1 e2 e3
    subst e1
    obtain ⟨b,o,rfl,hbl,hc⟩:=q3 k _ (List.getElem?_eq_getElem hlt)
    obtain ⟨_,_,r1,_,r3⟩:=HK.out.below HBW.out
    injection r1 with e4 e5 e6
    subst e4
    obtain ⟨b',o',rfl,hbl',hc'⟩:=r3 k _ (List.getElem?_eq_getElem hlt)
    have c0:=hc.1
    have c0':=hc'.1
    rw [Nat.mul_one] at c0 c0'
    generalize H[k]=x at *
    have hxx:((x:Int) != (x:Int))=false:=by simp
    clear hc hc' hb q3 r3 e2 e3 e5 e6
    go_wp2_with fail
    go_quiet (fail)
    go_wp2
    go_roundw
    case rel=>exact ⟨k+1,by omega,by go_num,below_drewN HB.out _⟩
    case measure=>simp [intOf]; omega
  · obtain rfl:k=H.length:=by omega
    clear hb
    go_wp2_with fail
    refine (HNS.out _ HBW.out).mono ?_
    rintro e w2 ⟨rfl,hb2⟩
    have HB2:=Lib.hid (HBW.out.trans (hb2.mono HBW.out.size))
    obtain ⟨⟨u0,u1,u2,u3,u4⟩,-⟩:=blk5_facts ((HX0.out.below HB.out HX0.out.lt).below hb2 (HX0.out.below HB.out HX0.out.lt).lt)
    obtain ⟨⟨z0,z1,z2,z3,z4⟩,-⟩:=blk5_facts ((HY0.out.below HB.out HY0.out.lt).below hb2 (HY0.out.below HB.out HY0.out.lt).lt)
    clear hb2 x0 x1 x2 x3 x4 y0 y1 y2 y3 y4
    go_wp2_with fail
    refine (HIS.out _ HB2.out).mono ?_
    rintro e w3 ⟨rfl,hb3⟩
    have HB3:=Lib.hid (HB2.out.trans (hb3.mono HB2.out.size))
    clear hb3
    go_wp2_with fail
    go_ret
    exact ⟨rfl,HB3.out⟩
section
variable {w0:World} {g ba:Nat} {vs vt:Value} {C:Ch} {fu:Int} {w:World} {vh ve vi vo:Value} {X:Se}
end

def chM:Ch:=⟨0,[⟨2,-1,[1],[],[]⟩,⟨1,0,[],[],[]⟩],[]⟩
theorem chkM:chk hasTB chM=.ok:=by kernel_rfl
theorem fewM:fewB chM=true:=by kernel_rfl
theorem startM_a:((bset (startS chM).a chM.sts.length:Nat):Int)=3:=by kernel_rfl
theorem startM_st:(startS chM).st=1:=by kernel_rfl
theorem still_hush {C:Ch} {X:Se} (h:X.st=1→Still C X):X.hush.st=1→Still C X.hush:=fun h1=>⟨(h h1).ins,(h h1).none,(h h1).well⟩
theorem okw_hush {C:Ch} {X:Se} (h:Okw C X):Okw C X.hush:=⟨h.wb,h.snd,h.hl,h.lt,h.el,h.fit,h.big,h.il⟩
theorem run_hush {w:World} {n:Nat} {v:Value} {X:Se} (h:RunAt w n v X):RunAt w n v X.hush:=h
theorem takeM:takeS chM 5 (startS chM).hush=(startS chM).hush:=take_idle (fun t ht=>by cases ht) (still_hush (start_ok (chk_mk chkM fewM)).2)
abbrev twoCellsM (vi:Value):Array Value:=#[.int .i64 2,.int .i64 (-1),vi,.slice none 0 0,.slice none 0 0,.int .i64 1,.int .i64 0,.slice none 0 0,.slice none 0 0,.slice none 0 0]
abbrev stTwoM (vi:Value):Obj:=.cells (twoCellsM vi) 63
theorem up_hasM {W:World} {g0 g1:Nat} (h0:Blk W g0 3 #[.int .i64 1]) (h:Blk W g1 63 (twoCellsM (.slice (some ⟨g0,0,none⟩) 1 1))):ChHas W (.slice (some ⟨g1,0,none⟩) 2 2) (.slice none 0 0) chM:=by
 have hL:ListAt W (.slice (some ⟨g0,0,none⟩) 1 1) [1]:=one_list g0 h0
 refine ⟨⟨_,2,rfl,Nat.le_refl _,fun i x hx=>?_⟩,RowsAt.nil W⟩
 match i,hx with
 | 0,hx =>
  simp [chM] at hx
  subst hx
  exact ⟨g1,0,rfl,h.lt,_,_,_,⟨h.cell 0,h.cell 1,h.cell 2,h.cell 3,h.cell 4⟩,hL,RowsAt.nil W,RowsAt.nil W⟩
 | 1,hx =>
  simp [chM] at hx
  subst hx
  exact ⟨g1,0,rfl,h.lt,_,_,_,⟨h.cell 5,h.cell 6,h.cell 7,h.cell 8,h.cell 9⟩,RowsAt.nil W,RowsAt.nil W,RowsAt.nil W⟩
 | i+2,hx=>simp [chM] at hx
set_option maxHeartbeats 8000000 in
set_option maxRecDepth 100000 in
theorem upM_any (w:World) (hL:Laid w):Calls Tryz.prog 6 #[] w fun e w'=>e=.returned (.bool true)∧Below w.heap.size w w':=by
 have hnn:=neq_nil_nil
 have HL:=Lib.hid hL
 clear hL
 have hk0:=(Blk.new w 3 #[.int .i64 1]).alloc (stTwoM (.slice (some ⟨w.heap.size,0,none⟩) 1 1))
 have hk1:=Blk.new_at (w.alloc (.cells #[.int .i64 1] 3)) 63 (twoCellsM (.slice (some ⟨w.heap.size,0,none⟩) 1 1)) (w.heap.size+1) (by simp)
 have HB0:=Lib.hid (((Below.refl w.heap.size w).alloc (Nat.le_refl _) (.cells #[.int .i64 1] 3)).alloc (by simp) (stTwoM (.slice (some ⟨w.heap.size,0,none⟩) 1 1)))
 have HC:=Lib.hid (up_hasM hk0 hk1)
 clear hk0 hk1
 go_enter Tryz.func6,Tryz.ntmps6
 go_wp2_with fail
 refine (new_any _ _ chM _ (HL.out.after HB0.out) HC.out fewM).mono ?_
 intro e w1 hp
 obtain ⟨hb1,t,rfl,_,hT⟩:=npost_yes hp chkM
 have HB1:=Lib.hid (HB0.out.trans (hb1.mono HB0.out.size))
 have HT1:=Lib.hid hT
 have hno:=fun W=>nilT_no t W
 have HL1:=Lib.hid (HL.out.after HB1.out)
 clear hb1 hT hp HC HB0 HL
 go_wp2_with fail
 refine (mstart_any HL1.out HT1.out (chk_mk chkM fewM)).mono ?_
 rintro e w2 ⟨hb2,vh2,ve2,vi2,vo2,rfl,hm2⟩
 have HOK:Hid (Okw chM (startS chM)∧((startS chM).st=1→Still chM (startS chM))):=Lib.hid (start_ok (chk_mk chkM fewM))
 obtain ⟨hA,hcap,rfl⟩:=hm2.hist.slice
 obtain ⟨eA,ecap,rfl⟩:=OwnEnv.slice hm2.env
 obtain ⟨iA,icap,rfl⟩:=hm2.ins.slice
 obtain ⟨oA,ocap,rfl⟩:=own_slice hm2.out
 have hr2:=hm2.run (n:=chM.sts.length)
 have HTK:Hid (takeS chM 5 (startS chM).hush=(startS chM).hush):=Lib.hid takeM
 have hHl:(startS chM).hist.length≤1000:=by have:=HOK.out.1.hl; rw [this]; decide
 have hEl:(startS chM).env.length≤1000:=by have:=HOK.out.1.el; rw [this]; decide
 have hIl:=HOK.out.1.big
 have ha:=startM_a
 have hs:=startM_st
 have HR2:=Lib.hid hr2
 rw [ha,hs]
 rw [ha,hs] at HR2
 have HA:=Lib.hid ha
 have HST:=Lib.hid hs
 have HLN:=Lib.hid (And.intro hHl (And.intro hEl hIl))
 clear ha hs hr2 hm2 hHl hEl hIl
 generalize startS chM=X at *
 generalize X.hist.length=hl at *
 generalize X.env.length=el at *
 generalize X.ins.length=il at *
 generalize X.out.length=ol at *
 have HB2:=Lib.hid (HB1.out.trans (hb2.mono HB1.out.size))
 have HT2:=Lib.hid (HT1.out.below hb2)
 have HL2:=Lib.hid (HL1.out.after hb2)
 have hbx:=below_box w2 (.cells #[.int .u32 3,.slice hA hl hcap,.slice eA el ecap,.slice iA il icap,.int .i64 1] 38)
 have HX3:=Lib.hid (Blk.new w2 38 #[.int .u32 3,.slice hA hl hcap,.slice eA el ecap,.slice iA il icap,.int .i64 1])
 have HB3:=Lib.hid (HB2.out.trans (hbx.mono HB2.out.size))
 have HT3:=Lib.hid (HT2.out.below hbx)
 have HL3:=Lib.hid (HL2.out.after hbx)
 have HR3:=Lib.hid (RunAt.below HR2.out hbx)
 clear hb2 HB1 HT1 HL1 HB2 HT2 HL2 HR2 hbx
 obtain ⟨⟨x0,x1,x2,x3,x4⟩,-⟩:=blk5_facts HX3.out
 go_wp2_with fail
 generalize w2.alloc (.cells #[.int .u32 3,.slice hA hl hcap,.slice eA el ecap,.slice iA il icap,.int .i64 1] 38)=w3 at *
 refine (mtake_any HL3.out HT3.out (chk_mk chkM fewM) _ HR3.out HOK.out.1 5).mono ?_
 rw [HTK.out]
 rintro e w4 ⟨hb4,vh4,ve4,vi4,vo4,rfl,hm4⟩
 have ha4:((bset X.hush.a chM.sts.length:Nat):Int)=3:=HA.out
 have hs4:X.hush.st=1:=HST.out
 have hr4:=hm4.run (n:=chM.sts.length)
 obtain ⟨hA4,hcap4,rfl⟩:=hm4.hist.slice
 obtain ⟨eA4,ecap4,rfl⟩:=OwnEnv.slice hm4.env
 obtain ⟨iA4,icap4,rfl⟩:=hm4.ins.slice
 obtain ⟨oA4,ocap4,rfl⟩:=own_slice hm4.out
 rw [ha4,hs4] at hr4 ⊢
 clear ha4 hs4 hm4
 generalize X.hush.hist.length=hl4 at *
 generalize X.hush.env.length=el4 at *
 generalize X.hush.ins.length=il4 at *
 generalize X.hush.out.length=ol4 at *
 have hbx:=below_box w4 (.cells #[.int .u32 3,.slice hA4 hl4 hcap4,.slice eA4 el4 ecap4,.slice iA4 il4 icap4,.int .i64 1] 38)
 have HY5:=Lib.hid (Blk.new w4 38 #[.int .u32 3,.slice hA4 hl4 hcap4,.slice eA4 el4 ecap4,.slice iA4 il4 icap4,.int .i64 1])
 have HX5:=Lib.hid ((HX3.out.below hb4 HX3.out.lt).below hbx (HX3.out.below hb4 HX3.out.lt).lt)
 have HB5:=Lib.hid ((HB3.out.trans (hb4.mono HB3.out.size)).trans (hbx.mono (HB3.out.trans (hb4.mono HB3.out.size)).size))
 have HR5:=Lib.hid (RunAt.below (RunAt.below HR3.out hb4) hbx)
 have HS5:=Lib.hid (RunAt.below hr4 hbx)
 clear hb4 hr4 hbx x0 x1 x2 x3 x4 HR3 HX3
 obtain ⟨⟨x0,x1,x2,x3,x4⟩,-⟩:=blk5_facts HX5.out
 obtain ⟨⟨y0,y1,y2,y3,y4⟩,-⟩:=blk5_facts HY5.out
 go_wp2_with fail
 refine (same12_any _ _ chM.sts.length X.hush _ (run_hush HR5.out) HS5.out (by have:=HOK.out.1.hl; show X.hist.length≤1000; rw [this]; decide) (by have:=HOK.out.1.el; show X.env.length≤1000; rw [this]; decide) (by have:=HOK.out.1.big; show X.ins.length≤1000000; omega)).mono ?_
 rintro e w6 ⟨rfl,hb6⟩
 have HB6:=Lib.hid (HB5.out.trans (hb6.mono HB5.out.size))
 clear hb6 x0 x1 x2 x3 x4 y0 y1 y2 y3 y4
 go_wp2_with fail
 go_ret
 exact ⟨rfl,HB6.out⟩

structure BxAt (B:Nat) (w:World) (r:Nat) (C:Ch) (vh ve vi vo:Value) (Y:Se):Prop where
 blk:Blk w r 38 #[.int .u32 ((bset Y.a C.sts.length:Nat):Int),vh,ve,vi,.int .i64 Y.st]
 rows:MwAt B w vh ve vi vo Y
theorem BxAt.below {B r:Nat} {w w':World} {C:Ch} {vh ve vi vo:Value} {Y:Se} (h:BxAt B w r C vh ve vi vo Y) (hb:Below w.heap.size w w'):BxAt B w' r C vh ve vi vo Y:=⟨h.blk.below hb h.blk.lt,h.rows.below hb⟩
theorem BxAt.run {B r:Nat} {w:World} {C:Ch} {vh ve vi vo:Value} {Y:Se} (h:BxAt B w r C vh ve vi vo Y):RunAt w C.sts.length (.agg #[.int .u32 ((bset Y.a C.sts.length:Nat):Int),vh,ve,vi,.int .i64 Y.st]) Y:=h.rows.run
theorem BxAt.put {B r:Nat} {w:World} {C:Ch} {vh ve vi vo uh ue ui uo:Value} {Y Z:Se} (h:BxAt B w r C vh ve vi vo Y) (hz:MwAt B w uh ue ui uo Z) :
 BxAt B (set5 w r 0 (.int .u32 ((bset Z.a C.sts.length:Nat):Int)) uh ue ui (.int .i64 Z.st)) r C uh ue ui uo Z:=by
 have hb:=h.blk
 have k1:=hb.set_ 0 (.int .u32 ((bset Z.a C.sts.length:Nat):Int))
 have k2:=k1.set_ 1 uh
 have k3:=k2.set_ 2 ue
 have k4:=k3.set_ 3 ui
 exact ⟨k4.set_ 4 (.int .i64 Z.st),((((hz.apart hb (by decide) (by decide) (by decide) (by decide) 0 _).apart k1 (by decide) (by decide) (by decide) (by decide) 1 _).apart k2 (by decide) (by decide) (by decide) (by decide) 2 _).apart k3 (by decide) (by decide) (by decide) (by decide) 3 _).apart k4 (by decide) (by decide) (by decide) (by decide) 4 _⟩
theorem below_set5 {B r:Nat} {w w':World} (h:Below B w w') (hr:B≤r) (a0 a1 a2 a3 a4:Value):Below B w (set5 w' r 0 a0 a1 a2 a3 a4) :=
 ((((h.setCell (p:=⟨r,0,none⟩) hr _).setCell (p:=⟨r,1,none⟩) hr _).setCell (p:=⟨r,2,none⟩) hr _).setCell (p:=⟨r,3,none⟩) hr _).setCell (p:=⟨r,4,none⟩) hr _
theorem MwAt.else5 {B q:Nat} {w:World} {vh ve vi vo:Value} {Y:Se} {cs:Array Value} (h:MwAt B w vh ve vi vo Y) (hb:Blk w q 38 cs) (a0 a1 a2 a3 a4:Value):MwAt B (set5 w q 0 a0 a1 a2 a3 a4) vh ve vi vo Y:=by
 have k1:=hb.set_ 0 a0
 have k2:=k1.set_ 1 a1
 have k3:=k2.set_ 2 a2
 exact ((((h.apart hb (by decide) (by decide) (by decide) (by decide) 0 a0).apart k1 (by decide) (by decide) (by decide) (by decide) 1 a1).apart k2 (by decide) (by decide) (by decide) (by decide) 2 a2).apart k3 (by decide) (by decide) (by decide) (by decide) 3 a3).apart (k3.set_ 3 a3) (by decide) (by decide) (by decide) (by decide) 4 a4
theorem BxAt.else5 {B q r:Nat} {w:World} {C:Ch} {vh ve vi vo:Value} {Y:Se} {cs:Array Value} (h:BxAt B w r C vh ve vi vo Y) (hb:Blk w q 38 cs) (hne:r ≠ q) (a0 a1 a2 a3 a4:Value):BxAt B (set5 w q 0 a0 a1 a2 a3 a4) r C vh ve vi vo Y :=
 ⟨((((h.blk.set_ne hne 0 a0).set_ne hne 1 a1).set_ne hne 2 a2).set_ne hne 3 a3).set_ne hne 4 a4,h.rows.else5 hb a0 a1 a2 a3 a4⟩
def Oka (C:Ch) (Y:Se):Prop:=Okw C Y∧(Y.st=1→Still C Y)
theorem Oka.take {C:Ch} {Y:Se} (hC:Chk C) (h:Oka C Y) (ev:Int):Oka C (takeS C ev Y.hush):=take_ok hC ev (okw_hush h.1) (still_hush h.2)

def viaQ (N:Exit→Act→World→Prop) (PP:List PanicEntry→List Deferred→World→Prop):Exit→Act→World→Prop
 | .panic c,a,w=>PP c a.defers w
 | e,a,w=>N e a w
theorem anyD_via {P:Program} {ops:Array Oper} {Q:Exit→Act→World→Prop} {md:Region.Mode} {S:World→Prop} {D:Nat→Bool} {fuel:Nat} {L:Array Bool} {a:Act} {w:World}
 (hind:∀ c a w,Q (.panic c) a w=Q (.panic c) ⟨#[],a.defers⟩ w)
 (h:∀ (N:Exit→Act→World→Prop) (PP:List PanicEntry→List Deferred→World→Prop),Hid (∀ a w,Q .normal a w→N .normal a w)→anyD P md ops (viaQ N PP) S D fuel L a w):anyD P md ops Q S D fuel L a w:=by
 have hq:Q=viaQ Q (fun c d w=>Q (.panic c) ⟨#[],d⟩ w):=by
  funext e a w
  cases e with
  | panic c=>exact hind c a w
  | _=>rfl
 rw [hq]
 exact h Q _ (Lib.hid fun a w h=>h)
abbrev opsT : Array Oper := #[{ dst := some 79, op := Op.move (Operand.tmp 7), type := 28, pos := "law.go:79", after := #[], guard := none },
 { dst := some 80, op := Op.load 38 (Operand.tmp 9), type := 38, pos := "law.go:79", after := #[], guard := none },
 { dst := some 81, op := Op.move (Operand.tmp 1), type := 36, pos := "law.go:79", after := #[], guard := none },
 { dst := some 82, op := Op.move (Operand.tmp 11), type := 3, pos := "law.go:79", after := #[], guard := none },
 { dst := some 83, op := Op.indexAddr 36 (Operand.tmp 81) (Operand.tmp 82), type := 0, pos := "law.go:79", after := #[{ on := 2, ground := Ground.data }, { on := 3, ground := Ground.data }], guard := none },
 { dst := some 84, op := Op.load 3 (Operand.tmp 83), type := 3, pos := "law.go:79", after := #[{ on := 4, ground := Ground.data }], guard := none },
 { dst := some 85, op := Op.call { callee := Callee.value (Operand.func 15), args := #[Operand.tmp 79, Operand.tmp 80, Operand.tmp 84], argTypes := #[28, 38, 3] }, type := 40, pos := "law.go:79", after := #[{ on := 0, ground := Ground.data }, { on := 1, ground := Ground.data }, { on := 5, ground := Ground.data }], guard := none },
 { dst := some 78, op := Op.move (Operand.tmp 85), type := 40, pos := "law.go:79", after := #[{ on := 6, ground := Ground.data }], guard := none },
 { dst := some 86, op := Op.extract (Operand.tmp 78) 0, type := 38, pos := "law.go:79", after := #[{ on := 7, ground := Ground.data }], guard := none },
 { dst := some 87, op := Op.extract (Operand.tmp 78) 1, type := 39, pos := "law.go:79", after := #[{ on := 7, ground := Ground.data }, { on := 11, ground := Ground.gcOnly Departure.lateStores }], guard := none },
 { dst := some 13, op := Op.alloc 38, type := 0, pos := "law.go:79", after := #[], guard := none },
 { dst := none, op := Op.store 38 (Operand.tmp 13) (Operand.tmp 86), type := 0, pos := "law.go:79", after := #[{ on := 10, ground := Ground.data }, { on := 8, ground := Ground.data }, { on := 6, ground := Ground.chain }, { on := 0, ground := Ground.phase }, { on := 1, ground := Ground.phase }, { on := 2, ground := Ground.phase }, { on := 3, ground := Ground.phase }, { on := 4, ground := Ground.phase }, { on := 5, ground := Ground.phase }, { on := 6, ground := Ground.phase }, { on := 7, ground := Ground.phase }, { on := 8, ground := Ground.phase }, { on := 9, ground := Ground.textOnly Departure.lateStores }, { on := 10, ground := Ground.phase }], guard := none },
 { dst := some 14, op := Op.assign (Operand.tmp 87), type := 39, pos := "law.go:79", after := #[{ on := 9, ground := Ground.data }, { on := 11, ground := Ground.chain }, { on := 0, ground := Ground.phase }, { on := 1, ground := Ground.phase }, { on := 2, ground := Ground.phase }, { on := 3, ground := Ground.phase }, { on := 4, ground := Ground.phase }, { on := 5, ground := Ground.phase }, { on := 6, ground := Ground.phase }, { on := 7, ground := Ground.phase }, { on := 8, ground := Ground.phase }, { on := 9, ground := Ground.phase }, { on := 10, ground := Ground.phase }, { on := 11, ground := Ground.phase }], guard := none }]
set_option maxHeartbeats 4000000 in
set_option maxRecDepth 100000 in
theorem take_region {N:Exit→Act→World→Prop} {PP:List PanicEntry→List Deferred→World→Prop} {S:World→Prop} {w8:World} {C:Ch} {Z:Se} {L:Array Bool} {fuel:Nat} {t0 t1 t2 t3 t4 t5 t6 t7 t8 t9 t10 t11 t12 t13 t14 t15 t16 t17 t18 t19 t20 t21 t22 t23 t24 t25 t26 t27 t28 t29 t30 t31 t32 t33 t34 t35 t36 t37 t38 t39 t40 t41 t42 t43 t44 t45 t46 t47 t48 t49 t50 t51 t52 t53 t54 t55 t56 t57 t58 t59 t60 t61 t62 t63 t64 t65 t66 t67 t68 t69 t70 t71 t72 t73 t74 t75 t76 t77 t78 t79 t80 t81 t82 t83 t84 t85 t86 t87 t88 t89 t90 t91 t92 t93 t94 t95 t96 t97 t98 t99 t100 t101 t102 t103 t104 t105 t106 t107 t108 t109:Value} {d:List Deferred}
 (hL:L=#[true,true,true,true,true,true,false,false,false,false,false,false,false]) (hf:fuel=7) (hS:∀ W,Below w8.heap.size w8 W→S W)
 (hT:∀ W,Below w8.heap.size w8 W→Calls Tryz.prog 15 #[t79,t80,t84] W (TkPost C Z W))
 (K:∀ (w11:World) (q:Nat) (uA:Option Addr) (ucap:Nat) (fA:Option Addr) (fcap:Nat) (jA:Option Addr) (jcap:Nat) (oA:Option Addr) (ocap:Nat),Below w8.heap.size w8 w11→w8.heap.size≤q→Blk w11 q 38 #[.int .u32 ((bset Z.a C.sts.length:Nat):Int),.slice uA Z.hist.length ucap,.slice fA Z.env.length fcap,.slice jA Z.ins.length jcap,.int .i64 Z.st] →
   MwAt w8.heap.size w11 (.slice uA Z.hist.length ucap) (.slice fA Z.env.length fcap) (.slice jA Z.ins.length jcap) (.slice oA Z.out.length ocap) Z→N .normal ⟨#[t0,t1,t2,t3,t4,t5,t6,t7,t8,t9,t10,t11,t12,.pointer (some ⟨q,0,none⟩),.slice oA Z.out.length ocap,t15,t16,t17,t18,t19,t20,t21,t22,t23,t24,t25,t26,t27,t28,t29,t30,t31,t32,t33,t34,t35,t36,t37,t38,t39,t40,t41,t42,t43,t44,t45,t46,t47,t48,t49,t50,t51,t52,t53,t54,t55,t56,t57,t58,t59,t60,t61,t62,t63,t64,t65,t66,t67,t68,t69,t70,t71,t72,t73,t74,t75,t76,t77,.tuple #[.agg #[.int .u32 ((bset Z.a C.sts.length:Nat):Int),.slice uA Z.hist.length ucap,.slice fA Z.env.length fcap,.slice jA Z.ins.length jcap,.int .i64 Z.st],.slice oA Z.out.length ocap],t79,t80,t81,t82,t83,t84,.tuple #[.agg #[.int .u32 ((bset Z.a C.sts.length:Nat):Int),.slice uA Z.hist.length ucap,.slice fA Z.env.length fcap,.slice jA Z.ins.length jcap,.int .i64 Z.st],.slice oA Z.out.length ocap],.agg #[.int .u32 ((bset Z.a C.sts.length:Nat):Int),.slice uA Z.hist.length ucap,.slice fA Z.env.length fcap,.slice jA Z.ins.length jcap,.int .i64 Z.st],.slice oA Z.out.length ocap,t88,t89,t90,t91,t92,t93,t94,t95,t96,t97,t98,t99,t100,t101,t102,t103,t104,t105,t106,t107,t108,t109],d⟩ w11) :
 anyD Tryz.prog .any opsT (viaQ N PP) S (fun i=>[11].contains i) fuel L ⟨#[t0,t1,t2,t3,t4,t5,t6,t7,t8,t9,t10,t11,t12,t13,t14,t15,t16,t17,t18,t19,t20,t21,t22,t23,t24,t25,t26,t27,t28,t29,t30,t31,t32,t33,t34,t35,t36,t37,t38,t39,t40,t41,t42,t43,t44,t45,t46,t47,t48,t49,t50,t51,t52,t53,t54,t55,t56,t57,t58,t59,t60,t61,t62,t63,t64,t65,t66,t67,t68,t69,t70,t71,t72,t73,t74,t75,t76,t77,t78,t79,t80,t81,t82,t83,t84,t85,t86,t87,t88,t89,t90,t91,t92,t93,t94,t95,t96,t97,t98,t99,t100,t101,t102,t103,t104,t105,t106,t107,t108,t109],d⟩ w8:=by
 subst hL
 subst hf
 have HTK:=Lib.hid hT
 have HSS:=Lib.hid hS
 have HKK:=Lib.hid K
 clear hT hS K
 refine anyD_two (i:=6) (j:=10) rfl rfl rfl rfl (by kernel_rfl) (fun K HK=>?orderA) (fun K HK=>?orderB)
 case' orderA =>
  go_simp
  refine (HTK.out w8 (Below.refl _ _)).mono ?_
  rintro e w9 ⟨hb9,uh,ue,ui,uo,rfl,hm9⟩
  obtain ⟨uA,ucap,rfl⟩:=hm9.hist.slice
  obtain ⟨fA,fcap,rfl⟩:=OwnEnv.slice hm9.env
  obtain ⟨jA,jcap,rfl⟩:=hm9.ins.slice
  obtain ⟨oA,ocap,rfl⟩:=own_slice hm9.out
  have hbx:=below_box w9 (.cells #[.int .u32 0,.slice none 0 0,.slice none 0 0,.slice none 0 0,.int .i64 0] 38)
  have HB9:=Lib.hid hb9
  have HB10:=Lib.hid (hb9.trans (hbx.mono hb9.size))
  have HM10:=Lib.hid (hm9.below hbx)
  have HQ10:=Lib.hid (Blk.new w9 38 #[.int .u32 0,.slice none 0 0,.slice none 0 0,.slice none 0 0,.int .i64 0])
  have HQB:Hid (w8.heap.size≤w9.heap.size):=Lib.hid hb9.size
  clear hm9 hbx hb9 HTK
  go_simp
  refine HK.out _ _ (fun _ hS=>HSS.out _ HB9.out) ?_
  clear HK K
  try simp only [sx]
  refine anyD_t 7 (.tuple #[.agg #[.int .u32 ((bset Z.a C.sts.length:Nat):Int),.slice uA Z.hist.length ucap,.slice fA Z.env.length fcap,.slice jA Z.ins.length jcap,.int .i64 Z.st],.slice oA Z.out.length ocap]) ?_
  try simp only [Act.put,sx]
  refine anyD_t 8 (.agg #[.int .u32 ((bset Z.a C.sts.length:Nat):Int),.slice uA Z.hist.length ucap,.slice fA Z.env.length fcap,.slice jA Z.ins.length jcap,.int .i64 Z.st]) ?_
  try simp only [Act.put,sx]
  refine anyD_t 9 (.slice oA Z.out.length ocap) ?_
  try simp only [Act.put,sx]
  clear HB9
  refine anyD_one (i:=10) rfl rfl (by kernel_rfl) (fun K HK=>?_)
  go_simp
  refine HK.out _ _ (fun _ hS=>HSS.out _ HB10.out) ?_
  clear HK K
  try simp only [sx]
  generalize w9.alloc (.cells #[.int .u32 0,.slice none 0 0,.slice none 0 0,.slice none 0 0,.int .i64 0] 38)=w10 at *
  generalize w9.heap.size=q at *
 case' orderB =>
  have hbx:=below_box w8 (.cells #[.int .u32 0,.slice none 0 0,.slice none 0 0,.slice none 0 0,.int .i64 0] 38)
  have HBX:=Lib.hid hbx
  have HQ9:=Lib.hid (Blk.new w8 38 #[.int .u32 0,.slice none 0 0,.slice none 0 0,.slice none 0 0,.int .i64 0])
  go_simp
  refine HK.out _ _ (fun _ hS=>HSS.out _ HBX.out) ?_
  clear HK K
  try simp only [sx]
  refine anyD_one (i:=6) rfl rfl (by kernel_rfl) (fun K HK=>?_)
  go_simp
  refine (HTK.out _ HBX.out).mono ?_
  rintro e w10 ⟨hb10,uh,ue,ui,uo,rfl,hm9⟩
  obtain ⟨uA,ucap,rfl⟩:=hm9.hist.slice
  obtain ⟨fA,fcap,rfl⟩:=OwnEnv.slice hm9.env
  obtain ⟨jA,jcap,rfl⟩:=hm9.ins.slice
  obtain ⟨oA,ocap,rfl⟩:=own_slice hm9.out
  have HB10:=Lib.hid (hbx.trans (hb10.mono hbx.size))
  have HM10:=Lib.hid (hm9.lower hbx.size)
  have HQ10:=Lib.hid (HQ9.out.below hb10 HQ9.out.lt)
  have HQB:Hid (w8.heap.size≤w8.heap.size):=Lib.hid (Nat.le_refl _)
  clear hm9 hbx hb10 HTK HQ9 HBX
  go_simp
  refine HK.out _ _ (fun _ hS=>HSS.out _ HB10.out) ?_
  clear HK K
  try simp only [sx]
  refine anyD_t 7 (.tuple #[.agg #[.int .u32 ((bset Z.a C.sts.length:Nat):Int),.slice uA Z.hist.length ucap,.slice fA Z.env.length fcap,.slice jA Z.ins.length jcap,.int .i64 Z.st],.slice oA Z.out.length ocap]) ?_
  try simp only [Act.put,sx]
  refine anyD_t 8 (.agg #[.int .u32 ((bset Z.a C.sts.length:Nat):Int),.slice uA Z.hist.length ucap,.slice fA Z.env.length fcap,.slice jA Z.ins.length jcap,.int .i64 Z.st]) ?_
  try simp only [Act.put,sx]
  refine anyD_t 9 (.slice oA Z.out.length ocap) ?_
  try simp only [Act.put,sx]
 all_goals
  clear HSS
  obtain ⟨⟨p0,p1,p2,p3,p4⟩,q0,q1,q2,q3,q4⟩:=blk5_facts HQ10.out
  refine anyD_one (i:=11) rfl rfl (by kernel_rfl) (fun K HK=>?_)
  go_simp
  go_simp
  refine HK.out _ _ (fun h=>absurd h (by decide)) ?_
  clear HK K
  try simp only [sx]
  refine anyD_one (i:=12) rfl rfl (by kernel_rfl) (fun K HK=>?_)
  go_simp
  refine HK.out _ _ (fun _ hS=>hS) ?_
  clear HK K
  try simp only [sx]
  refine anyD_done (by kernel_rfl) ?_
  have HM11:=Lib.hid (HM10.out.else5 HQ10.out (.int .u32 ((bset Z.a C.sts.length:Nat):Int)) (.slice uA Z.hist.length ucap) (.slice fA Z.env.length fcap) (.slice jA Z.ins.length jcap) (.int .i64 Z.st))
  have HQ11:=Lib.hid (((((HQ10.out.set_ 0 (.int .u32 ((bset Z.a C.sts.length:Nat):Int))).set_ 1 (.slice uA Z.hist.length ucap)).set_ 2 (.slice fA Z.env.length fcap)).set_ 3 (.slice jA Z.ins.length jcap)).set_ 4 (.int .i64 Z.st))
  have HB11:=Lib.hid (below_set5 HB10.out HQB.out (.int .u32 ((bset Z.a C.sts.length:Nat):Int)) (.slice uA Z.hist.length ucap) (.slice fA Z.env.length fcap) (.slice jA Z.ins.length jcap) (.int .i64 Z.st))
  exact HKK.out _ _ _ _ _ _ _ _ _ _ HB11.out HQB.out HQ11.out HM11.out
end Go.Proofs.YtmhkpjcdkjnlnaaGreatDoor
