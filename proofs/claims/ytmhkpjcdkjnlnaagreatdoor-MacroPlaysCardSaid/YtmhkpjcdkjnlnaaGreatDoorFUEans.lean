/- The contract of expr.Eval: a postfix's value, or what is amiss first. -/
import Derived.Test.YtmhkpjcdkjnlnaaGreatDoorFUEwor
import Derived.Deep.RegionWith
import Derived.RegionTactic
namespace Go.Proofs.YtmhkpjcdkjnlnaaGreatDoor
open Go.ChangeShapes Go.WideShapes Go.ChangeAt Go.RowKit
set_option linter.unusedVariables false

def VPost (a:Vl) (w:World) (e:Ending) (w':World):Prop :=
 Below w.heap.size w w'∧match a with
  | .ok k n=>e=.returned (.tuple #[.agg #[.int .i64 k,.int .i64 n],.nilIface])
  | .bad c=>e=.returned (.tuple #[.agg #[.int .i64 0,.int .i64 0],.iface 82 (.int .i64 c)])
theorem results_pair {fn:Func} {r s:Tmp} (hr:fn.results=#[.cell r 204,.tmp s]) (tmps:Array Value) (w:World) (g:Nat) (a b:Value)
 (hp:tmps.getD r undef=.pointer (some ⟨g,0,none⟩)) (hB:Blk w g 204 #[a,b]) :
 (results fn tmps).run Tryz.prog w=.ok (.tuple #[.agg #[a,b],tmps.getD s undef]) w:=by
 have c0:=hB.cell 0
 have c1:=hB.cell 1
 simp at c0 c1 hp
 simp [results,hr,hp,go_sem,c0,c1]
theorem Blk.facts2 {w:World} {g:Nat} {t:TypeId} {x y:Value} (h:Blk w g t #[x,y]) :
 (w.cell? ⟨g,0,none⟩=some x∧w.cell? ⟨g,1,none⟩=some y)∧(w.frozen? ⟨g,0,none⟩=false∧w.frozen? ⟨g,1,none⟩=false):=⟨⟨h.cell 0,h.cell 1⟩,h.frozen 0,h.frozen 1⟩
theorem Blk.set2 {w:World} {g:Nat} {t:TypeId} {x y:Value} (h:Blk w g t #[x,y]) (a b:Value):Blk ((w.setCell ⟨g,0,none⟩ a).setCell ⟨g,1,none⟩ b) g t #[a,b]:=(h.set_ 0 a).set_ 1 b
theorem Blk.grown2 {w w':World} {g:Nat} {t:TypeId} {cs:Array Value} {row:Option Nat} (h:Blk w g t cs) (hg:w.grownBy w' row) (hne:some g ≠ row):Blk w' g t cs:=(hg.block g h.lt hne).trans h
theorem NumsAt.drewN {w:World} {v:Value} {xs:List Int} (h:NumsAt w v xs) (n:Nat):NumsAt (w.drewN n) v xs:=h
structure ESt (B:Nat) (w:World) (v u:Value) (S:List Vl):Prop where
 kinds:w.ownsRow (B+1) 3 1 v S.length (intVals (kindsOf S))
 nums:w.ownsRow (B+1) 2 1 u S.length (intVals (numsOf S))
 apart:∀ j,v.ownBlock=some j→u.ownBlock ≠ some j
 res:Blk w B 204 #[.int .i64 0,.int .i64 0]
theorem nums_below {w w':World} {ve:Value} {env:List Int} {B:Nat} (h:NumsAt w ve env) (hb:Below B w w') (hB:w.heap.size≤B):NumsAt w' ve env:=h.below (hb.mono hB)
theorem ESt.stepped {B:Nat} {wo w1:World} {v u:Value} {S:List Vl} (h:ESt B wo v u S) {g:Nat} (hg:wo.grownBy w1 v.ownBlock) (hat:v.ownBlock=some g ∨ wo.heap.size≤g) :
 w1.ownsRow (B+1) 2 1 u S.length (intVals (numsOf S))∧u.ownBlock ≠ some g∧Blk w1 B 204 #[.int .i64 0,.int .i64 0]:=by
 refine ⟨h.nums.kept hg ?_,?_,h.res.grown2 hg (fun hc=>by have:=(h.kinds.lt B hc.symm).1; omega)⟩
 · cases hu:u.ownBlock with
   | none=>exact .inl rfl
   | some j=>exact .inr fun hc=>h.apart j hc.symm hu
 · rcases hat with h1 | h1
   · exact h.apart g h1
   · exact fun hc=>by have:=(h.nums.lt g hc).2; omega
theorem ESt.pushed {B g cap:Nat} {w1 w3:World} {u':Value} {S':List Vl} {k n:Int} {q:Nat} {row:Option Nat} (hk:w1.ownsRow (B+1) 3 1 (.slice (some ⟨g,0,none⟩) (q+1) cap) (q+1) (intVals (kindsOf S' ++ [k]))) (hr:Blk w1 B 204 #[.int .i64 0,.int .i64 0])
 (hgr:w1.grownBy w3 row) (hrow:∀ j,row=some j→B+1≤j∧j ≠ g) (hn:w3.ownsRow (B+1) 2 1 u' (q+1) (intVals (numsOf S') ++ [.int .i64 n])) (hq:S'.length=q) (hu:∀ j,u'.ownBlock=some j→j ≠ g) :
 ESt B w3 (.slice (some ⟨g,0,none⟩) (q+1) cap) u' (.ok k n :: S'):=by
 refine ⟨?_,?_,fun j hj hc=>hu j hc (by simpa [Value.ownBlock] using hj.symm),hr.grown2 hgr (fun hc=>by have:=(hrow B hc.symm).1; omega)⟩
 · have:=hk.kept hgr (.inr fun hc=>by have:=(hrow g (by rw [← hc]; rfl)).2; exact this rfl)
   rw [kindsOf_cons,List.length_cons,hq]
   exact this
 · rw [numsOf_cons,List.length_cons,intVals_app,hq]; exact hn
theorem nums_end {w:World} {B:Nat} {g q c cap:Nat} {ys ks:List Int} (h:w.ownsRow B 2 1 (.slice (some ⟨g,0,none⟩) (q+c) cap) (q+c) (intVals (ys ++ ks))) (hy:ys.length=q) (j:Nat) (x:Int) (hx:ks[j]?=some x):w.cell? ⟨g,q+j,none⟩=some (.int .i64 x):=by
 refine own_cell h (q+j) _ ?_
 rw [intVals_app,List.getElem?_append_right (by rw [intVals_len]; omega),intVals_len,hy,Nat.add_sub_cancel_left]
 simp [intVals,hx]
theorem ESt.below {B:Nat} {w w':World} {v u:Value} {S:List Vl} (h:ESt B w v u S) (hb:Below w.heap.size w w'):ESt B w' v u S:=⟨own_below h.kinds hb,own_below h.nums hb,h.apart,h.res.below hb h.res.lt⟩
theorem pushed_app {B g cap q:Nat} {w2 w3:World} {o:Obj} {u u':Value} {S':List Vl} {k n:Int} (hk:w2.ownsRow (B+1) 3 1 (.slice (some ⟨g,0,none⟩) (q+1) cap) (q+1) (intVals (kindsOf S' ++ [k]))) (hr:Blk w2 B 204 #[.int .i64 0,.int .i64 0])
 (hgr:(w2.alloc o).grownBy w3 u.ownBlock) (hub:∀ j,u.ownBlock=some j→B+1≤j) (hug:u.ownBlock ≠ some g) (hn:w3.ownsRow (B+1) 2 1 u' (q+1) (intVals (numsOf S') ++ [.int .i64 n])) (hq:S'.length=q) (hu:u'.ownBlock=u.ownBlock ∨ u'.ownBlock=some (w2.alloc o).heap.size) :
 ESt B w3 (.slice (some ⟨g,0,none⟩) (q+1) cap) u' (.ok k n :: S'):=by
 have hgl:=(hk.lt g rfl).2
 refine ESt.pushed (hk.alloc o) (hr.alloc o) hgr (fun j hj=>⟨hub j hj,fun hc=>hug (by rw [hj,hc])⟩) hn hq (fun j hj hc=>?_)
 subst hc
 rcases hu with h | h
 · exact hug (by rw [← h,hj])
 · rw [hj] at h; injection h with h; simp at h; omega

theorem leaf_ok_or (m:Md) {t:Tk} (h:tak t=0):∃ n,leafV m t=.ok (rul t.1).2.2 n ∨ leafV m t=.bad 4:=by
 by_cases hv:t.1=2∧m.lim≤t.2.1
 · exact ⟨0,.inr (leaf_none hv.1 hv.2)⟩
 · obtain ⟨n,hn⟩:=leaf_some (m:=m) h hv
   exact ⟨n,.inl hn⟩
theorem un_ok_or {t:Tk} {k:Int} (n:Int) (h:tak t=1) (hk:k=1 ∨ k=2):(∃ n',unV t (.ok k n)=.ok (rul t.1).2.2 n') ∨ unV t (.ok k n)=.bad 8:=by
 obtain ⟨s1,s2⟩:=un_step (n:=n) h hk
 cases htk:tks (rul t.1).2.1 [k] with
 | true=>exact .inl (s1 htk)
 | false=>exact .inr (s2 htk)
theorem leaf_ok_of {m:Md} {t:Tk} {P:Prop} (h:tak t=0) (hu:(leafV m t=.bad 9∧P) ∨ ∃ n,leafV m t=.ok (rul t.1).2.2 n):∃ n,leafV m t=.ok (rul t.1).2.2 n:=by
 rcases hu with ⟨hu,_⟩ | hu
 · obtain ⟨n,hn | hn⟩:=leaf_ok_or m h
   · exact ⟨n,hn⟩
   · rw [hn] at hu; cases hu
 · exact hu
theorem un_ok_of {t:Tk} {k n:Int} {P:Prop} (h:tak t=1) (hk:k=1 ∨ k=2) (hu:(unV t (.ok k n)=.bad 9∧P) ∨ ∃ n',unV t (.ok k n)=.ok (rul t.1).2.2 n'):∃ n',unV t (.ok k n)=.ok (rul t.1).2.2 n':=by
 rcases hu with ⟨hu,_⟩ | hu
 · rcases un_ok_or n h hk with hn | hn
   · exact hn
   · rw [hn] at hu; cases hu
 · exact hu
theorem slice_of_own2' {w:World} {B:Nat} {e:TypeId} {s n:Nat} {v:Value} {xs:List Value} (h:w.ownsRow B e s v n xs) (hn:n ≠ 0):∃ g cap,v=.slice (some ⟨g,0,none⟩) n cap:=by
 rcases h.2 with ⟨_,h⟩ | ⟨a,b,_,h,_⟩
 · omega
 · exact ⟨a,b,h⟩
set_option maxHeartbeats 8000000 in
set_option maxRecDepth 100000 in
theorem eval_may (v ve:Value) (ts:List Tk) (env:List Int) (w:World) (hv:ToksAt w v ts) (hE:NumsAt w ve env) (hel:env.length≤1000) (hef:∀ x ∈ env,F64 x) (hn:∀ t ∈ ts,t.2.1≤9223372036854775807) (hm:mayP ts=true):Calls Tryz.prog 218 #[v,ve] w (VPost (ans ⟨false,env,0⟩ ts) w):=by
 obtain ⟨i0,hi,hz0,hz1,hz2⟩:=info_parts Tryz.info2
 have HI:=Lib.hid hi
 have HZ0:=Lib.hid hz0
 have HZ1:=Lib.hid hz1
 have HZ2:=Lib.hid hz2
 clear hi hz0 hz1 hz2
 have HBA:=Lib.hid ((Below.refl w.heap.size w).alloc (Nat.le_refl _) (.cells #[.int .i64 0,.int .i64 0] 204))
 have HM:=Lib.hid (may_any v ts _ (hv.below HBA.out) (by have:=(mayP_valid hm).1; omega))
 obtain ⟨hl,hV,htop⟩:=ans_may ⟨false,env,0⟩ hm
 have hlim:(⟨false,env,0⟩:Md).lim=(env.length:Int)∧(⟨false,env,0⟩:Md).ty=false:=⟨rfl,rfl⟩
 have HGD:=Lib.hid (fun i hi hvi=>vs_good ⟨false,env,0⟩ hn hef i hi hvi)
 have HWL:=Lib.hid (fun t of_ k n W h1 h2 h3 h4=>worth_leaf t of_ ve env 0 k n W h1 hel h2 h3 h4)
 generalize (⟨false,env,0⟩:Md)=md at *
 have HLIM:=Lib.hid hlim
 have HMP:=Lib.hid hm
 have HV:=Lib.hid hV
 have HTOP:=Lib.hid htop
 have HN:=Lib.hid hn
 have HENV:=Lib.hid hE
 have hnn:=neq_nil_nil
 have hnc:=fun p W=>neq_code_is p W
 obtain ⟨A,cap,rfl,hc,hel2⟩:=hv
 have HE:=Lib.hid hel2
 obtain ⟨eA,ecap,rfl,hec,_⟩:=hE
 clear hel2 hm hn hV htop hlim hef
 go_enter Tryz.func218,Tryz.ntmps218
 go_wp2_with fail
 refine HM.out.mono ?_
 rintro e w0 ⟨rfl,hb0⟩
 rw [HMP.out]
 have HB0:=Lib.hid (HBA.out.trans (hb0.mono HBA.out.size))
 have HR0:=Lib.hid ((Blk.new w 204 #[.int .i64 0,.int .i64 0]).below hb0 (by simp))
 clear hb0
 go_wp2_with fail
 go_loopw [6,7,21] (fun v u i wr=>∃ k:Nat,k≤ts.length∧i=.int .i64 (k:Int)∧Hid (fb (vs md ts k)=none)∧Below w.heap.size w wr∧Hid (ESt w.heap.size wr v u (vs md ts k))) (fun _ _ i _=>ts.length - (intOf i).toNat)
 case atStart=>exact ⟨0,Nat.zero_le _,rfl,Lib.hid rfl,HB0.out,Lib.hid ⟨World.ownsRow_nil _ _ _ _,World.ownsRow_nil _ _ _ _,fun j hj=>by simp [Value.ownBlock] at hj,HR0.out⟩⟩
 case round =>
  obtain ⟨k,hk,rfl,HF,hb,HES⟩:=hrel
  obtain ⟨wo,rfl⟩:∃ wo:World,wo=wr:=⟨_,rfl⟩
  by_cases hlt:k < ts.length
  · obtain ⟨b,o,rfl,hbw,c0,c1,c2⟩:=HE.out k ts[k] (List.getElem?_eq_getElem hlt)
    have c0:wo.cell? ⟨b,o+k * 3,none⟩=_:=(hb.cell (p:=⟨b,_,none⟩) hbw).trans c0
    have c1:wo.cell? ⟨b,o+k * 3+1,none⟩=_:=(hb.cell (p:=⟨b,_,none⟩) hbw).trans c1
    have c2:wo.cell? ⟨b,o+k * 3+2,none⟩=_:=(hb.cell (p:=⟨b,_,none⟩) hbw).trans c2
    have hg:ts.getD k (0,0,0)=ts[k]:=by simp [List.getD,List.getElem?_eq_getElem hlt]
    obtain ⟨ht0,htn⟩:=HV.out k hlt
    have hvl:=vs_len md ts k hk (HV.out.mono hk)
    have hst:=vs_succ md hlt
    have hsl:(vs md ts k).length≤100:=by rw [hvl]; have:=stk_le' ts k (HV.out.mono hk); omega
    rw [hg] at ht0 htn hst
    rw [← hvl] at htn
    have HSM:=Lib.hid (HN.out ts[k] (List.getElem_mem hlt))
    generalize ts[k]=t at *
    have HST:=Lib.hid hst
    have HB1:=Lib.hid ((Below.refl wo.heap.size wo).alloc (Nat.le_refl _) (.cells #[.int .i64 t.1,.int .i64 t.2.1,.int .i64 t.2.2] 192))
    have HES1:=Lib.hid (HES.out.below HB1.out)
    have HXA:=Lib.hid (hb.trans (HB1.out.mono hb.size))
    have HTB:=Lib.hid (Blk.new wo 192 #[.int .i64 t.1,.int .i64 t.2.1,.int .i64 t.2.2])
    have HKL:=Lib.hid (fun j hj=>(HES.out.kinds.lt j hj))
    have HGS:=Lib.hid (HGD.out k hk (HV.out.mono hk))
    have hBB:w.heap.size+1≤(wo.alloc (.cells #[.int .i64 t.1,.int .i64 t.2.1,.int .i64 t.2.2] 192)).heap.size:=by simp; have:=hb.size; omega
    generalize hSk:vs md ts k=SS at *
    clear hg hst hvl hSk
    rcases tak_cases t with c | c | c | c
    · omega
    · have HSA:=Lib.hid (step_leaf md t (w.heap.size+1) _ SS _ HES1.out.kinds (by omega) hBB c)
      rw [HLIM.out.1] at HSA
      have HC:=Lib.hid c
      have HVS:=Lib.hid (HST.out.trans (vstep0 SS c))
      clear htn ht0 c hBB
      go_wp2_with fail
      refine HSA.out.mono ?_
      rintro e w1 (⟨cc,hbad,hc48,rfl,hb1⟩ | ⟨huk,g,gcap,he,hgr,hown',hat,hglt⟩)
      · have HA:=Lib.hid (bad_end md HV.out (show k+1≤ts.length by omega) HTOP.out (HVS.out.trans (by rw [hbad])) HF.out)
        have HX:=Lib.hid (HXA.out.trans (hb1.mono HXA.out.size))
        have HRS:=Lib.hid (HES1.out.res.below hb1 HES1.out.res.lt)
        obtain ⟨⟨r0,r1⟩,f0,f1⟩:=HRS.out.facts2
        clear hb1 hbad hc48
        go_wp2_with fail
        refine bodyPost_ret (results_pair Tryz.results218 _ _ w.heap.size _ _ (by rfl) (HRS.out.set2 _ _)) rfl ⟨(HX.out.setCell (by simp) _).setCell (by simp) _,?_⟩
        rw [HA.out]
        rfl
      · have huk':∃ n,leafV md t=.ok (rul t.1).2.2 n:=leaf_ok_of HC.out huk
        obtain ⟨n,hun⟩:=huk'
        generalize hq:SS.length=q
        have hql:q≤100:=by omega
        have HQ:=Lib.hid hq
        have HQL:=Lib.hid (show (numsOf SS).length=q by rw [numsOf_len]; exact hq)
        have hlen:(kindsOf SS ++ [(rul t.1).2.2]).length=q+1:=by rw [List.length_append,kindsOf_len,hq]; rfl
        rw [hlen] at he hown'
        subst he
        obtain ⟨hnu,hng,hr1⟩:=HES1.out.stepped hgr hat
        rw [hq] at hnu
        have HNU:=Lib.hid hnu
        have HNG:=Lib.hid hng
        have HR1:=Lib.hid hr1
        have HKO:=Lib.hid hown'
        have HX1:=Lib.hid (HXA.out.grown hgr HXA.out.size (fun j hj=>by have:=(HKL.out j hj).1; omega))
        have HTB1:=Lib.hid (HTB.out.grown2 hgr (fun hc=>by have:=(HKL.out _ hc.symm).2; omega))
        have HUB:=Lib.hid (fun j hj=>(HNU.out.lt j hj).1)
        obtain ⟨⟨a0,a1,a2⟩,_⟩:=HTB1.out.facts3
        have HEN1:=Lib.hid (nums_below HENV.out HX1.out (Nat.le_refl _))
        have hwz:wo.heap.size < w1.heap.size:=HTB1.out.lt
        clear hlen hgr hown' hat hglt hnu hng hr1 huk hq
        have HW:=Lib.hid (fun of_=>HWL.out t of_ _ n w1.drew (HEN1.out.drewN 1) HC.out HSM.out hun)
        have HUN:=Lib.hid hun
        clear hun
        have hcs:=HNU.out.2
        rcases hcs with ⟨rfl,h0⟩ | ⟨gu,ucap,cur,rfl,_,_,hcap,_⟩
        · obtain rfl:q=0:=h0
          go_wp2_with fail
          first
           | (go_region_with (go_at_call 229; refine (HW.out _).mono ?_; rintro e w2 ⟨rfl,hb2⟩; have HB2:=Lib.hid hb2; clear hb2))
           | fail
          have HX2:=Lib.hid (HX1.out.drew.trans (HB2.out.mono HX1.out.size))
          have HR2:=Lib.hid ((HR1.out.drewN 1).below HB2.out HR1.out.lt)
          have HK2:=Lib.hid (own_below HKO.out.drew HB2.out)
          have HN2:=Lib.hid (own_below (HNU.out.drew) HB2.out)
          have HQ3:=Lib.hid (show 0+1≤maxLen by unfold maxLen; omega)
          have HQ4:=Lib.hid (show (0+1) * 8≤140737488355328 by omega)
          have HQ5:=Lib.hid (show ∀ o:Obj,w.heap.size+1≤(w2.alloc o).heap.size from fun o=>by simp; exact HX2.out.size)
          go_wp2_with (at_builtin; refine wpList_append_own_at _ rfl _ _ 35 rfl (w.heap.size+1) 2 i0 (.int .i64 0) 1 8 Tryz.underlying35 HI.out HZ0.out HZ1.out HZ2.out rfl (by decide) _ _ _ rfl (HN2.out.alloc _) ⟨w2.heap.size,0,none⟩ 1 1 [.int .i64 n] rfl rfl (news_int w2 n 2) (int_one n) HQ3.out HQ4.out (HQ5.out _) ?_; intro u' w3 hown2 hgrow _ hrow2)
          have HG:=Lib.hid ((HX2.out.alloc HX2.out.size _).grown hgrow (by simp; have:=HX2.out.size; omega) (fun j hj=>by have:=(HN2.out.lt j hj).1; omega))
          have HE3:=Lib.hid (pushed_app HK2.out HR2.out hgrow (fun j hj=>(HN2.out.lt j hj).1) (fun hc=>HNG.out hc) hown2 HQ.out hrow2)
          clear hown2 hgrow hrow2
          go_wp2
          go_roundw
          case rel =>
           refine ⟨k+1,by omega,by go_num,Lib.hid ?_,HG.out,Lib.hid ?_⟩
           · rw [HVS.out,HUN.out,fb_cons,HF.out]; rfl
           · rw [HVS.out,HUN.out]; exact HE3.out
          case measure=>simp [intOf]; omega
        · by_cases hcq:ucap=q
          · subst hcq
            go_wp2_with fail
            first
             | (go_region_with (go_at_call 229; refine (HW.out _).mono ?_; rintro e w2 ⟨rfl,hb2⟩; have HB2:=Lib.hid hb2; clear hb2))
             | fail
            have HX2:=Lib.hid (HX1.out.drew.trans (HB2.out.mono HX1.out.size))
            have HR2:=Lib.hid ((HR1.out.drewN 1).below HB2.out HR1.out.lt)
            have HK2:=Lib.hid (own_below HKO.out.drew HB2.out)
            have HN2:=Lib.hid (own_below (HNU.out.drew) HB2.out)
            have HQ3:=Lib.hid (show ucap+1≤maxLen by unfold maxLen; omega)
            have HQ4:=Lib.hid (show (ucap+1) * 8≤140737488355328 by omega)
            have HQ5:=Lib.hid (show ∀ o:Obj,w.heap.size+1≤(w2.alloc o).heap.size from fun o=>by simp; exact HX2.out.size)
            go_wp2_with (at_builtin; refine wpList_append_own_at _ rfl _ _ 35 rfl (w.heap.size+1) 2 i0 (.int .i64 0) 1 8 Tryz.underlying35 HI.out HZ0.out HZ1.out HZ2.out rfl (by decide) _ _ _ rfl (HN2.out.alloc _) ⟨w2.heap.size,0,none⟩ 1 1 [.int .i64 n] rfl rfl (news_int w2 n 2) (int_one n) HQ3.out HQ4.out (HQ5.out _) ?_; intro u' w3 hown2 hgrow _ hrow2)
            have HG:=Lib.hid ((HX2.out.alloc HX2.out.size _).grown hgrow (by simp; have:=HX2.out.size; omega) (fun j hj=>by have:=(HN2.out.lt j hj).1; omega))
            have HE3:=Lib.hid (pushed_app HK2.out HR2.out hgrow (fun j hj=>(HN2.out.lt j hj).1) (fun hc=>HNG.out hc) hown2 HQ.out hrow2)
            clear hown2 hgrow hrow2
            go_wp2
            go_roundw
            case rel =>
             refine ⟨k+1,by omega,by go_num,Lib.hid ?_,HG.out,Lib.hid ?_⟩
             · rw [HVS.out,HUN.out,fb_cons,HF.out]; rfl
             · rw [HVS.out,HUN.out]; exact HE3.out
            case measure=>simp [intOf]; omega
          · have hcq2:q < ucap:=by omega
            have e5:(q:Int)≤(q:Int):=by omega
            have e1:¬ ucap=q:=by omega
            have e2:(ucap == q)=false:=by simp; omega
            have e3:¬ (ucap:Int)=(q:Int):=by omega
            have e6:(q:Int) < (ucap:Int):=by omega
            have e8:¬ ucap≤q:=by omega
            have e9:¬ q=ucap:=by omega
            have e10:q≤ucap:=by omega
            go_wp2_with fail
            first
             | (go_region_with (go_at_call 229; refine (HW.out _).mono ?_; rintro e w2 ⟨rfl,hb2⟩; have HB2:=Lib.hid hb2; clear hb2))
             | fail
            have HX2:=Lib.hid (HX1.out.drew.trans (HB2.out.mono HX1.out.size))
            have HR2:=Lib.hid ((HR1.out.drewN 1).below HB2.out HR1.out.lt)
            have HK2:=Lib.hid (own_below HKO.out.drew HB2.out)
            have HN2:=Lib.hid (own_below (HNU.out.drew) HB2.out)
            have HQ3:=Lib.hid (show q+1≤maxLen by unfold maxLen; omega)
            have HQ4:=Lib.hid (show (q+1) * 8≤140737488355328 by omega)
            have HQ5:=Lib.hid (show ∀ o:Obj,w.heap.size+1≤(w2.alloc o).heap.size from fun o=>by simp; exact HX2.out.size)
            go_wp2_with (at_builtin; refine wpList_append_own_at _ rfl _ _ 35 rfl (w.heap.size+1) 2 i0 (.int .i64 0) 1 8 Tryz.underlying35 HI.out HZ0.out HZ1.out HZ2.out rfl (by decide) _ _ _ rfl (HN2.out.alloc _) ⟨w2.heap.size,0,none⟩ 1 1 [.int .i64 n] rfl rfl (news_int w2 n 2) (int_one n) HQ3.out HQ4.out (HQ5.out _) ?_; intro u' w3 hown2 hgrow _ hrow2)
            have HG:=Lib.hid ((HX2.out.alloc HX2.out.size _).grown hgrow (by simp; have:=HX2.out.size; omega) (fun j hj=>by have:=(HN2.out.lt j hj).1; omega))
            have HE3:=Lib.hid (pushed_app HK2.out HR2.out hgrow (fun j hj=>(HN2.out.lt j hj).1) (fun hc=>HNG.out hc) hown2 HQ.out hrow2)
            clear hown2 hgrow hrow2
            go_wp2
            go_roundw
            case rel =>
             refine ⟨k+1,by omega,by go_num,Lib.hid ?_,HG.out,Lib.hid ?_⟩
             · rw [HVS.out,HUN.out,fb_cons,HF.out]; rfl
             · rw [HVS.out,HUN.out]; exact HE3.out
            case measure=>simp [intOf]; omega
    · rcases SS with _ | ⟨x,SS⟩
      · rw [c] at htn; simp at htn
      · obtain ⟨⟨xk,xn,rfl⟩,hf1⟩:=fb_none_cons HF.out
        have HF1:=Lib.hid hf1
        have HKD:=Lib.hid (good_kind (HGS.out (.ok xk xn) (by simp)))
        rw [List.length_cons] at hsl
        have HSA:=Lib.hid (step_un md t (w.heap.size+1) _ xk xn SS _ (by have:=HES1.out.kinds; rw [kindsOf_cons] at this; exact this) (by omega) hBB c HKD.out)
        rw [HLIM.out.1] at HSA
        have HC:=Lib.hid c
        have HVS:=Lib.hid (HST.out.trans (vstep1 (.ok xk xn) SS c))
        clear htn ht0 c hBB hf1
        go_wp2_with fail
        refine HSA.out.mono ?_
        rintro e w1 (⟨cc,hbad,hc48,rfl,hb1⟩ | ⟨huk,g,gcap,he,hgr,hown',hat,hglt⟩)
        · have HA:=Lib.hid (bad_end md HV.out (show k+1≤ts.length by omega) HTOP.out (HVS.out.trans (by rw [hbad])) HF1.out)
          have HX:=Lib.hid (HXA.out.trans (hb1.mono HXA.out.size))
          have HRS:=Lib.hid (HES1.out.res.below hb1 HES1.out.res.lt)
          obtain ⟨⟨r0,r1⟩,f0,f1⟩:=HRS.out.facts2
          clear hb1 hbad hc48
          go_wp2_with fail
          refine bodyPost_ret (results_pair Tryz.results218 _ _ w.heap.size _ _ (by rfl) (HRS.out.set2 _ _)) rfl ⟨(HX.out.setCell (by simp) _).setCell (by simp) _,?_⟩
          rw [HA.out]
          rfl
        · have huk':∃ n,unV t (.ok xk xn)=.ok (rul t.1).2.2 n:=un_ok_of HC.out HKD.out huk
          obtain ⟨n,hun⟩:=huk'
          generalize hq:SS.length=q
          have hql:q≤100:=by omega
          have HQ:=Lib.hid hq
          have HQL:=Lib.hid (show (numsOf SS).length=q by rw [numsOf_len]; exact hq)
          have hlen:(kindsOf SS ++ [(rul t.1).2.2]).length=q+1:=by rw [List.length_append,kindsOf_len,hq]; rfl
          rw [hlen] at he hown'
          subst he
          obtain ⟨hnu,hng,hr1⟩:=HES1.out.stepped hgr hat
          rw [numsOf_cons,List.length_cons] at hnu
          rw [hq] at hnu
          have HNU:Hid (w1.ownsRow (w.heap.size+1) 2 1 _ (q+1) (intVals (numsOf SS ++ [xn]))):=Lib.hid hnu
          have HNG:=Lib.hid hng
          have HR1:=Lib.hid hr1
          have HKO:=Lib.hid hown'
          have HX1:=Lib.hid (HXA.out.grown hgr HXA.out.size (fun j hj=>by have:=(HKL.out j hj).1; omega))
          have HTB1:=Lib.hid (HTB.out.grown2 hgr (fun hc=>by have:=(HKL.out _ hc.symm).2; omega))
          have HUB:=Lib.hid (fun j hj=>(HNU.out.lt j hj).1)
          obtain ⟨⟨a0,a1,a2⟩,_⟩:=HTB1.out.facts3
          have HEN1:=Lib.hid (nums_below HENV.out HX1.out (Nat.le_refl _))
          have hwz:wo.heap.size < w1.heap.size:=HTB1.out.lt
          obtain ⟨gu,ucap,hgcap⟩:=slice_of_own2' HNU.out (by simp)
          subst hgcap
          clear hlen hgr hown' hat hglt hnu hng hr1 huk hq
          have HCG:=Lib.hid (show w1.cell? ⟨gu,q,none⟩=some (.int .i64 xn) from nums_end (c:=1) HNU.out HQL.out 0 xn rfl)
          have hgu:gu < w1.heap.size:=(HNU.out.lt gu rfl).2
          have HW:=Lib.hid (worth_un t (.slice eA env.length ecap) xk xn _ n gu q (ucap - q) w1.drew HC.out hgu HCG.out hun)
          have HUN:=Lib.hid hun
          clear hun
          have hcap:=own_cap HNU.out
          have e5:(q:Int)≤(q:Int)+1:=by omega
          have e1:¬ ucap=q:=by omega
          have e2:(ucap == q)=false:=by simp; omega
          have e3:¬ (ucap:Int)=(q:Int):=by omega
          have e6:(q:Int) < (ucap:Int):=by omega
          have e7:q < ucap:=by omega
          have e8:¬ ucap≤q:=by omega
          have e9:¬ q=ucap:=by omega
          have e10:q≤ucap:=by omega
          go_wp2_with fail
          first
           | (go_region_with (go_at_call 229; refine (HW.out).mono ?_; rintro e w2 ⟨rfl,hb2⟩; have HB2:=Lib.hid hb2; clear hb2))
           | fail
          have HX2:=Lib.hid (HX1.out.drew.trans (HB2.out.mono HX1.out.size))
          have HR2:=Lib.hid ((HR1.out.drewN 1).below HB2.out HR1.out.lt)
          have HK2:=Lib.hid (own_below HKO.out.drew HB2.out)
          have HN2:=Lib.hid (own_take (k:=q) (ys:=intVals (numsOf SS)) (own_below (HNU.out.drew) HB2.out) (by rw [intVals_len]; exact HQL.out) ⟨_,intVals_app _ _⟩)
          have HQ3:=Lib.hid (show q+1≤maxLen by unfold maxLen; omega)
          have HQ4:=Lib.hid (show (q+1) * 8≤140737488355328 by omega)
          have HQ5:=Lib.hid (show ∀ o:Obj,w.heap.size+1≤(w2.alloc o).heap.size from fun o=>by simp; exact HX2.out.size)
          go_wp2_with (at_builtin; refine wpList_append_own_at _ rfl _ _ 35 rfl (w.heap.size+1) 2 i0 (.int .i64 0) 1 8 Tryz.underlying35 HI.out HZ0.out HZ1.out HZ2.out rfl (by decide) _ _ _ rfl (HN2.out.alloc _) ⟨w2.heap.size,0,none⟩ 1 1 [.int .i64 n] rfl rfl (news_int w2 n 2) (int_one n) HQ3.out HQ4.out (HQ5.out _) ?_; intro u' w3 hown2 hgrow _ hrow2)
          have HG:=Lib.hid ((HX2.out.alloc HX2.out.size _).grown hgrow (by simp; have:=HX2.out.size; omega) (fun j hj=>by have:=(HN2.out.lt j hj).1; omega))
          have HE3:=Lib.hid (pushed_app HK2.out HR2.out hgrow (fun j hj=>(HN2.out.lt j hj).1) (fun hc=>HNG.out hc) hown2 HQ.out hrow2)
          clear hown2 hgrow hrow2
          go_wp2
          go_roundw
          case rel =>
           refine ⟨k+1,by omega,by go_num,Lib.hid ?_,HG.out,Lib.hid ?_⟩
           · rw [HVS.out,HUN.out,fb_cons,HF1.out]; rfl
           · rw [HVS.out,HUN.out]; exact HE3.out
          case measure=>simp [intOf]; omega
    · rcases SS with _ | ⟨x,_ | ⟨y,SS⟩⟩
      · rw [c] at htn; simp at htn
      · rw [c] at htn; simp at htn
      · obtain ⟨⟨bk,bn,rfl⟩,hf1⟩:=fb_none_cons HF.out
        obtain ⟨⟨ak,an,rfl⟩,hf2⟩:=fb_none_cons hf1
        have HF1:=Lib.hid hf2
        have HGA:=Lib.hid (HGS.out (.ok ak an) (by simp))
        have HGB:=Lib.hid (HGS.out (.ok bk bn) (by simp))
        rw [List.length_cons,List.length_cons] at hsl
        have HSA:=Lib.hid (step_bin md t (w.heap.size+1) _ ak an bk bn SS _ (by have:=HES1.out.kinds; rw [kindsOf_cons,kindsOf_cons,List.append_assoc] at this; exact this) (by omega) hBB c (good_kind HGA.out) (good_kind HGB.out))
        rw [HLIM.out.1] at HSA
        have HC:=Lib.hid c
        have HVS:=Lib.hid (HST.out.trans (vstep2 (.ok bk bn) (.ok ak an) SS c))
        rw [HLIM.out.2] at HVS HSA
        clear htn ht0 c hBB hf1 hf2
        go_wp2_with fail
        refine HSA.out.mono ?_
        rintro e w1 ⟨(⟨cc,hbad,hc48,rfl,hb1⟩ | ⟨huk,g,gcap,he,hgr,hown',hat,hglt⟩),hnot⟩
        · have HA:=Lib.hid (bad_end md HV.out (show k+1≤ts.length by omega) HTOP.out (HVS.out.trans (by rw [hbad])) HF1.out)
          have HX:=Lib.hid (HXA.out.trans (hb1.mono HXA.out.size))
          have HRS:=Lib.hid (HES1.out.res.below hb1 HES1.out.res.lt)
          obtain ⟨⟨r0,r1⟩,f0,f1⟩:=HRS.out.facts2
          clear hb1 hbad hc48
          go_wp2_with fail
          refine bodyPost_ret (results_pair Tryz.results218 _ _ w.heap.size _ _ (by rfl) (HRS.out.set2 _ _)) rfl ⟨(HX.out.setCell (by simp) _).setCell (by simp) _,?_⟩
          rw [HA.out]
          rfl
        · have htks:tks (rul t.1).2.1 [ak,bk]=true:=by
           cases h:tks (rul t.1).2.1 [ak,bk] with
           | true=>rfl
           | false =>
            have h2:=(hnot h).1
            rw [he] at h2
            cases h2
          have HTKS:=Lib.hid htks
          clear htks hnot
          generalize hq:SS.length=q
          have hql:q≤100:=by omega
          have HQ:=Lib.hid hq
          have HQL:=Lib.hid (show (numsOf SS).length=q by rw [numsOf_len]; exact hq)
          have hlen:(kindsOf SS ++ [(rul t.1).2.2]).length=q+1:=by rw [List.length_append,kindsOf_len,hq]; rfl
          rw [hlen] at he hown'
          subst he
          obtain ⟨hnu,hng,hr1⟩:=HES1.out.stepped hgr hat
          rw [numsOf_cons,numsOf_cons,List.append_assoc,List.length_cons,List.length_cons] at hnu
          rw [hq] at hnu
          have HNU:Hid (w1.ownsRow (w.heap.size+1) 2 1 _ (q+2) (intVals (numsOf SS ++ [an,bn]))):=Lib.hid hnu
          have HNG:=Lib.hid hng
          have HR1:=Lib.hid hr1
          have HKO:=Lib.hid hown'
          have HX1:=Lib.hid (HXA.out.grown hgr HXA.out.size (fun j hj=>by have:=(HKL.out j hj).1; omega))
          have HTB1:=Lib.hid (HTB.out.grown2 hgr (fun hc=>by have:=(HKL.out _ hc.symm).2; omega))
          have HUB:=Lib.hid (fun j hj=>(HNU.out.lt j hj).1)
          obtain ⟨⟨a0,a1,a2⟩,_⟩:=HTB1.out.facts3
          have HEN1:=Lib.hid (nums_below HENV.out HX1.out (Nat.le_refl _))
          have hwz:wo.heap.size < w1.heap.size:=HTB1.out.lt
          obtain ⟨gu,ucap,hgcap⟩:=slice_of_own2' HNU.out (by simp)
          subst hgcap
          clear hlen hgr hown' hat hglt hnu hng hr1 huk hq
          have HCG:=Lib.hid (show w1.cell? ⟨gu,q,none⟩=some (.int .i64 an) from nums_end (c:=2) HNU.out HQL.out 0 an rfl)
          have HCH:=Lib.hid (show w1.cell? ⟨gu,q+1,none⟩=some (.int .i64 bn) from nums_end (c:=2) HNU.out HQL.out 1 bn rfl)
          have hgu:gu < w1.heap.size:=(HNU.out.lt gu rfl).2
          obtain ⟨kd,rfl,hk3,hk13⟩:=tkk_two HC.out
          obtain ⟨hB1,hB2⟩:=bin_num ⟨hk3,hk13⟩ HGA.out HGB.out HTKS.out
          have hW0:=fun ve=>worth_bin kd ve an bn gu q (ucap - q) w1.drew ⟨hk3,hk13⟩ hgu (by have:=own_cap HNU.out; omega) HCG.out HCH.out
          have hcap:=own_cap HNU.out
          have e5:(q:Int)≤(q:Int)+2:=by omega
          have e1:¬ ucap=q:=by omega
          have e2:(ucap == q)=false:=by simp; omega
          have e3:¬ (ucap:Int)=(q:Int):=by omega
          have e6:(q:Int) < (ucap:Int):=by omega
          have e7:q < ucap:=by omega
          have e8:¬ ucap≤q:=by omega
          have e9:¬ q=ucap:=by omega
          have e10:q≤ucap:=by omega
          cases hr:wtN kd an bn with
          | some n =>
           rw [hr] at hW0
           have HW:=Lib.hid (hW0 (.slice eA env.length ecap))
           have HVL:=Lib.hid (hB1 n hr)
           clear hW0 hB1 hB2 hr
           unfold numVal at HW
           go_wp2_with fail
           first
            | (go_region_with (go_at_call 229; refine (HW.out).mono ?_; rintro e w2 ⟨rfl,hb2⟩; have HB2:=Lib.hid hb2; clear hb2))
            | fail
           have HX2:=Lib.hid (HX1.out.drew.trans (HB2.out.mono HX1.out.size))
           have HR2:=Lib.hid ((HR1.out.drewN 1).below HB2.out HR1.out.lt)
           have HK2:=Lib.hid (own_below HKO.out.drew HB2.out)
           have HN2:=Lib.hid (own_take (k:=q) (ys:=intVals (numsOf SS)) (own_below (HNU.out.drew) HB2.out) (by rw [intVals_len]; exact HQL.out) ⟨_,intVals_app _ _⟩)
           have HQ3:=Lib.hid (show q+1≤maxLen by unfold maxLen; omega)
           have HQ4:=Lib.hid (show (q+1) * 8≤140737488355328 by omega)
           have HQ5:=Lib.hid (show ∀ o:Obj,w.heap.size+1≤(w2.alloc o).heap.size from fun o=>by simp; exact HX2.out.size)
           go_wp2_with (at_builtin; refine wpList_append_own_at _ rfl _ _ 35 rfl (w.heap.size+1) 2 i0 (.int .i64 0) 1 8 Tryz.underlying35 HI.out HZ0.out HZ1.out HZ2.out rfl (by decide) _ _ _ rfl (HN2.out.alloc _) ⟨w2.heap.size,0,none⟩ 1 1 [.int .i64 n] rfl rfl (news_int w2 n 2) (int_one n) HQ3.out HQ4.out (HQ5.out _) ?_; intro u' w3 hown2 hgrow _ hrow2)
           have HG:=Lib.hid ((HX2.out.alloc HX2.out.size _).grown hgrow (by simp; have:=HX2.out.size; omega) (fun j hj=>by have:=(HN2.out.lt j hj).1; omega))
           have HE3:=Lib.hid (pushed_app HK2.out HR2.out hgrow (fun j hj=>(HN2.out.lt j hj).1) (fun hc=>HNG.out hc) hown2 HQ.out hrow2)
           clear hown2 hgrow hrow2
           go_wp2
           go_roundw
           case rel =>
            refine ⟨k+1,by omega,by go_num,Lib.hid ?_,HG.out,Lib.hid ?_⟩
            · rw [HVS.out,HVL.out,fb_cons,HF1.out]; rfl
            · rw [HVS.out,HVL.out]; exact HE3.out
           case measure=>simp [intOf]; omega
          | none =>
           rw [hr] at hW0
           have HW:=Lib.hid (hW0 (.slice eA env.length ecap))
           have HVL:=Lib.hid (hB2 hr)
           clear hW0 hB1 hB2 hr
           unfold numVal at HW
           have HA:=Lib.hid (bad_end md HV.out (show k+1≤ts.length by omega) HTOP.out (HVS.out.trans (by rw [HVL.out])) HF1.out)
           go_wp2_with fail
           first
            | (go_region_with (go_at_call 229; refine (HW.out).mono ?_; rintro e w2 ⟨rfl,hb2⟩; have HB2:=Lib.hid hb2; clear hb2))
            | fail
           have HX2:=Lib.hid (HX1.out.drew.trans (HB2.out.mono HX1.out.size))
           have HR2:=Lib.hid ((HR1.out.drewN 1).below HB2.out HR1.out.lt)
           obtain ⟨⟨r0,r1⟩,f0,f1⟩:=HR2.out.facts2
           go_wp2_with fail
           refine bodyPost_ret (results_pair Tryz.results218 _ _ w.heap.size _ _ (by rfl) (HR2.out.set2 _ _)) rfl ⟨(HX2.out.setCell (by simp) _).setCell (by simp) _,?_⟩
           rw [HA.out]
           rfl
  · obtain rfl:k=ts.length:=by omega
    have hF:=HF.out
    have hO:=HES.out
    rw [HTOP.out] at hF hO
    obtain ⟨⟨kk,nn,hAn⟩,_⟩:=fb_none_cons hF
    rw [hAn] at hO
    have HO:=Lib.hid hO
    obtain ⟨g,gcap,rfl⟩:=slice_of_own hO.kinds
    obtain ⟨gu,ucap,rfl⟩:=slice_of_own hO.nums
    have hcg:wo.cell? ⟨g,0,none⟩=some (.int .i64 kk):=own_cell hO.kinds 0 _ (by simp [intVals,kindsOf,Vl.kind])
    have hcu:wo.cell? ⟨gu,0,none⟩=some (.int .i64 nn):=own_cell hO.nums 0 _ (by simp [intVals,numsOf,Vl.num])
    obtain ⟨⟨r0,r1⟩,f0,f1⟩:=hO.res.facts2
    have HAN:=Lib.hid hAn
    clear hF hO hAn HF HES
    go_wp2_with fail
    go_region
    all_goals
     go_wp2_with fail
     refine bodyPost_ret (results_pair Tryz.results218 _ _ w.heap.size _ _ (by rfl) ((HO.out.res.drewN 1).set2 _ _)) rfl ⟨((below_drewN hb 1).setCell (by simp) _).setCell (by simp) _,?_⟩
     rw [HAN.out]
     rfl


theorem ans_not (m:Md) {ts:List Tk} (h:mayP ts=false):ans m ts=.bad 2:=by unfold ans; rw [if_neg (by rw [h]; exact Bool.false_ne_true)]
set_option maxHeartbeats 1000000 in
theorem type_any (v:Value) (ts:List Tk) (vars:Int) (w:World) (hv:ToksAt w v ts) (hl:ts.length≤1000) (hn:∀ t ∈ ts,t.2.1≤9223372036854775807):Calls Tryz.prog 143 #[v,.int .i64 vars] w (TyPost (ans ⟨true,[],vars⟩ ts) w):=by
 cases hm:mayP ts with
 | true=>exact type_may v ts vars w hv hn hm
 | false =>
  have HM:=Lib.hid (may_any v ts w hv (by omega))
  have HMP:=Lib.hid hm
  have HA:=Lib.hid (ans_not ⟨true,[],vars⟩ hm)
  obtain ⟨A,cap,rfl,hc,hel⟩:=hv
  clear hel hm
  go_enter Tryz.func143,Tryz.ntmps143
  go_wp2_with fail
  refine HM.out.mono ?_
  rintro e w0 ⟨rfl,hb0⟩
  rw [HMP.out]
  have HB0:=Lib.hid hb0
  clear hb0
  go_wp2_with fail
  go_ret2
  rw [HA.out]
  exact ⟨HB0.out,rfl⟩
set_option maxHeartbeats 1000000 in
theorem eval_any (v ve:Value) (ts:List Tk) (env:List Int) (w:World) (hv:ToksAt w v ts) (hl:ts.length≤1000) (hE:NumsAt w ve env) (hel:env.length≤1000) (hef:∀ x ∈ env,F64 x) (hn:∀ t ∈ ts,t.2.1≤9223372036854775807):Calls Tryz.prog 218 #[v,ve] w (VPost (ans ⟨false,env,0⟩ ts) w):=by
 cases hm:mayP ts with
 | true=>exact eval_may v ve ts env w hv hE hel hef hn hm
 | false =>
  have HBA:=Lib.hid ((Below.refl w.heap.size w).alloc (Nat.le_refl _) (.cells #[.int .i64 0,.int .i64 0] 204))
  have HM:=Lib.hid (may_any v ts _ (hv.below HBA.out) (by omega))
  have HMP:=Lib.hid hm
  have HA:=Lib.hid (ans_not ⟨false,env,0⟩ hm)
  obtain ⟨A,cap,rfl,hc,hel⟩:=hv
  clear hel hm
  go_enter Tryz.func218,Tryz.ntmps218
  go_wp2_with fail
  refine HM.out.mono ?_
  rintro e w0 ⟨rfl,hb0⟩
  rw [HMP.out]
  have HB0:=Lib.hid (HBA.out.trans (hb0.mono HBA.out.size))
  have HR0:=Lib.hid ((Blk.new w 204 #[.int .i64 0,.int .i64 0]).below hb0 (by simp))
  obtain ⟨⟨r0,r1⟩,f0,f1⟩:=HR0.out.facts2
  clear hb0
  go_wp2_with fail
  refine bodyPost_ret (results_pair Tryz.results218 _ _ w.heap.size _ _ (by rfl) (HR0.out.set2 _ _)) rfl ⟨(HB0.out.setCell (by simp) _).setCell (by simp) _,?_⟩
  rw [HA.out]
  rfl
end Go.Proofs.YtmhkpjcdkjnlnaaGreatDoor
