/- The contract of expr.step: what a token takes is taken from the end of a row of kinds, and what it gives put there; or what is amiss. -/
import Derived.Test.YtfgkcjmeiabdjaaGreatDoorFErul
import Derived.Deep.RegionWith
import Derived.RegionTactic
import Derived.Deep.AppendLies
import Derived.Deep.RegionLaw
import Derived.Test.YtfgkcjmeiabdjaaGreatDoorFPwhole
import Derived.Test.YtfgkcjmeiabdjaaGreatDoorFTmay
namespace Go.Proofs.YtfgkcjmeiabdjaaGreatDoor
open Go.ChangeShapes Go.WideShapes Go.ChangeAt Go.RowKit
set_option linter.unusedVariables false

def intVals (xs:List Int):List Value:=xs.map fun x=>.int .i64 x
theorem intVals_len (xs:List Int):(intVals xs).length=xs.length:=by simp [intVals]
theorem intVals_app (xs ys:List Int):intVals (xs ++ ys)=intVals xs ++ intVals ys:=by simp [intVals]
theorem int_one (x:Int):∀ u ∈ [Value.int .i64 x],u.oneCell'=true:=by
  intro u hu
  obtain rfl:=List.mem_singleton.1 hu
  rfl
theorem Tryz.info3:(Tryz.prog.info? 3).map (fun i=>(i.zero,i.size,i.bytes))=some (some (.int .i64 0),1,8):=by kernel_rfl
theorem Tryz.info2:(Tryz.prog.info? 2).map (fun i=>(i.zero,i.size,i.bytes))=some (some (.int .i64 0),1,8):=by kernel_rfl
theorem own_take {w:World} {B:Nat} {e:TypeId} {g n k cap:Nat} {xs ys:List Value} (h:w.ownsRow B e 1 (.slice (some ⟨g,0,none⟩) n cap) n xs) (hk:ys.length=k) (hx:∃ zs,xs=ys ++ zs):w.ownsRow B e 1 (.slice (some ⟨g,0,none⟩) k cap) k ys:=by
  obtain ⟨zs,rfl⟩:=hx
  refine ⟨by omega,?_⟩
  rcases h.2 with ⟨h0,_⟩ | ⟨g',cap',cur,h1,h2,h3,h4,h5,h6,h7⟩
  · cases h0
  · injection h1 with h1 h8 h9
    subst h9
    have hl:=h.1
    rw [List.length_append] at hl
    refine .inr ⟨g',cap,cur,by rw [← hk] at *; injection h1 with h1; rw [h1],h2,h3,by omega,h5,h6,?_⟩
    have:=congrArg (List.take k) h7
    rw [List.take_take,show min k (n * 1)=k * 1 by omega] at this
    rw [this,← hk,List.take_left]
theorem own_cell {w:World} {B:Nat} {e:TypeId} {g n cap:Nat} {xs:List Value} (h:w.ownsRow B e 1 (.slice (some ⟨g,0,none⟩) n cap) n xs) (j:Nat) (x:Value) (hx:xs[j]?=some x):w.cell? ⟨g,j,none⟩=some x:=by
  have hj:j < n:=by have:=(List.getElem?_eq_some_iff.1 hx).1; rw [h.1] at this; omega
  rw [h.cellAt j (by omega),hx]
theorem own_cap {w:World} {B:Nat} {e:TypeId} {g n cap:Nat} {xs:List Value} (h:w.ownsRow B e 1 (.slice (some ⟨g,0,none⟩) n cap) n xs):n≤cap:=by
  rcases h.2 with ⟨h0,_⟩ | ⟨g',cap',cur,h1,h2,h3,h4,h5,h6,h7⟩
  · cases h0
  · injection h1 with h1 h8 h9
    omega
theorem ints_end {w:World} {B:Nat} {e:TypeId} {g q c cap:Nat} {ys ks:List Int} (h:w.ownsRow B e 1 (.slice (some ⟨g,0,none⟩) (q+c) cap) (q+c) (intVals (ys ++ ks))) (hy:ys.length=q) (hk:ks.length=c):NumsAt w (.slice (some ⟨g,q,none⟩) c (cap - q)) ks:=by
  have hcap:=own_cap h
  refine ⟨some ⟨g,q,none⟩,cap - q,by rw [hk],by omega,fun i x hx=>⟨g,q,rfl,(h.lt g rfl).2,?_⟩⟩
  refine own_cell h (q+i) _ ?_
  rw [intVals_app,List.getElem?_append_right (by rw [intVals_len]; omega),intVals_len,hy,Nat.add_sub_cancel_left]
  simp [intVals,hx]
theorem ints_nil (w:World) (A:Option Addr) (cap:Nat):NumsAt w (.slice A 0 cap) []:=⟨A,cap,rfl,Nat.zero_le _,fun i x h=>by simp at h⟩
theorem NumsAt.drew {w:World} {v:Value} {xs:List Int} (h:NumsAt w v xs):NumsAt w.drew v xs:=h
def SErr (c:Int) (w:World) (e:Ending) (w':World):Prop:=e=.returned (.tuple #[.slice none 0 0,.iface 106 (.int .i64 c)])∧Below w.heap.size w w'
def SOk (B:Nat) (v:Value) (L:List Int) (w:World) (e:Ending) (w':World):Prop :=
  ∃ g cap:Nat,e=.returned (.tuple #[.slice (some ⟨g,0,none⟩) L.length cap,.nilIface])∧w.grownBy w' v.ownBlock∧w'.ownsRow B 3 1 (.slice (some ⟨g,0,none⟩) L.length cap) L.length (intVals L)∧(v.ownBlock=some g ∨ w.heap.size≤g)∧g < w'.heap.size
theorem grown_after {w w1 w2:World} {r:Option Nat} (hb:Below w.heap.size w w1) (hg:w1.grownBy w2 r):w.grownBy w2 r :=
  ⟨hg.os.trans hb.os,hg.tape.trans hb.tape,hg.output.trans hb.output,Nat.le_trans hb.size hg.size,fun i hi hr=>(hg.block i (Nat.lt_of_lt_of_le hi hb.size) hr).trans (hb.block i hi)⟩
set_option maxHeartbeats 2000000 in
theorem step_none (v:Value) (x a vars:Int) (w:World) (h:vars≤x):Calls Tryz.prog 154 #[v,.agg #[.int .i64 2,.int .i64 x,.int .i64 a],.int .i64 vars] w (SErr 4 w):=by
  have hd:decide (vars≤x)=true:=by simpa using h
  go_enter Tryz.func154,Tryz.ntmps154
  go_wp2_with fail
  go_ret2
  exact ⟨rfl,(Below.refl _ _).alloc (Nat.le_refl _) _⟩
theorem news_int (w:World) (x:Int) (t:TypeId):∀ j u,[Value.int .i64 x][j]?=some u→(w.alloc (.cells #[.int .i64 x] t)).cell? ((⟨w.heap.size,0,none⟩:Addr).add j)=some u:=by
  intro j u hj
  cases j with
  | zero =>
    simp at hj
    subst hj
    exact (Blk.new w t #[.int .i64 x]).cell 0
  | succ j=>simp at hj
theorem Blk.facts3' {w:World} {g:Nat} {t:TypeId} {x y z:Value} (h:Blk w g t #[x,y,z]):w.cell? ⟨g,0,none⟩=some x∧w.cell? ⟨g,1,none⟩=some y∧w.cell? ⟨g,2,none⟩=some z:=⟨h.cell 0,h.cell 1,h.cell 2⟩
set_option maxHeartbeats 4000000 in
set_option maxRecDepth 100000 in
theorem step_room_bad (kd x a vars:Int) (B g q c cap:Nat) (ys ks:List Int) (w:World) (hown:w.ownsRow B 3 1 (.slice (some ⟨g,0,none⟩) (q+c) cap) (q+c) (intVals (ys ++ ks))) (hy:ys.length=q) (hk:ks.length=c) (hq:q < cap) (hl:q+c≤1000) (hr:(rul kd).1=(c:Int)) (hnz:∀ k ∈ ks,k ≠ 0) (hv:(kd == 2)=false ∨ (kd=2∧x < vars)) (htk:tks (rul kd).2.1 ks=false) :
    Calls Tryz.prog 154 #[.slice (some ⟨g,0,none⟩) (q+c) cap,.agg #[.int .i64 kd,.int .i64 x,.int .i64 a],.int .i64 vars] w (SErr 8 w):=by
  have HOWN:=Lib.hid hown
  have HNZ:=Lib.hid hnz
  have HTK:=Lib.hid htk
  have HY:=Lib.hid hy
  have HKS:=Lib.hid hk
  have HR:=Lib.hid (fun W=>ruleOf_any kd W)
  have HRC:=Lib.hid hr
  have hcap:=own_cap hown
  have HB1:=Lib.hid ((Below.refl w.heap.size w).alloc (Nat.le_refl _) (.cells #[.int .i64 kd,.int .i64 x,.int .i64 a] 184))
  have e5:(q:Int)≤(q:Int)+(c:Int):=by omega
  have e6:(q:Int) < (cap:Int):=by omega
  have e7:q < cap:=by omega
  have e10:q≤cap:=by omega
  have e1:¬ cap=q:=by omega
  have e2:(cap == q)=false:=by simp; omega
  have e3:¬ (cap:Int)=(q:Int):=by omega
  have e8:¬ cap≤q:=by omega
  have e9:¬ q=cap:=by omega
  clear hown hnz htk hy hk hr
  generalize (rul kd).1=rc at *
  generalize (rul kd).2.1=rk at *
  generalize (rul kd).2.2=rg at *
  obtain rfl:rc=(c:Int):=HRC.out
  rcases hv with hv | ⟨rfl,hv⟩
  all_goals
    try have hdv:decide (vars≤x)=false:=by simp; omega
    go_enter Tryz.func154,Tryz.ntmps154
    go_wp2_with fail
    refine (HR.out _).mono ?_
    rintro e w1 ⟨rfl,hb1⟩
    have HX1:=Lib.hid (HB1.out.trans (hb1.mono (by simp)))
    have HO1:=Lib.hid (own_below HOWN.out HX1.out)
    clear hb1
    go_wp2_with fail
    have HI1:=Lib.hid (ints_end (own_below HO1.out ((Below.refl _ _).alloc (Nat.le_refl _) (.cells #[.int .i64 (c:Int),.int .i64 rk,.int .i64 rg] 201))) HY.out HKS.out)
    have HT:=Lib.hid (rtks_any (c:Int) rk rg _ ks _ HI1.out.drew HNZ.out (by have:=HKS.out; omega))
    first
      | (go_region_with (go_at_call 167; refine (HT.out).mono ?_; rintro e w2 ⟨rfl,hb2⟩; have HB2:=Lib.hid hb2; clear hb2))
      | fail
    rw [HTK.out]
    go_wp2_with fail
    go_ret2
    exact ⟨rfl,(HX1.out.alloc HX1.out.size _).drew.trans (HB2.out.mono (by simp; have:=HX1.out.size; omega))⟩
set_option maxHeartbeats 4000000 in
set_option maxRecDepth 100000 in
theorem step_room_ok (kd x a vars:Int) (B g q c cap:Nat) (ys ks:List Int) (w:World) (hown:w.ownsRow B 3 1 (.slice (some ⟨g,0,none⟩) (q+c) cap) (q+c) (intVals (ys ++ ks))) (hy:ys.length=q) (hk:ks.length=c) (hq:q < cap) (hl:q+c≤1000) (hr:(rul kd).1=(c:Int)) (hnz:∀ k ∈ ks,k ≠ 0) (hv:(kd == 2)=false ∨ (kd=2∧x < vars)) (hB:B≤w.heap.size) (htk:tks (rul kd).2.1 ks=true) :
    Calls Tryz.prog 154 #[.slice (some ⟨g,0,none⟩) (q+c) cap,.agg #[.int .i64 kd,.int .i64 x,.int .i64 a],.int .i64 vars] w (SOk B (.slice (some ⟨g,0,none⟩) (q+c) cap) (ys ++ [(rul kd).2.2]) w):=by
  obtain ⟨i0,hi,hz0,hz1,hz2⟩:=info_parts Tryz.info3
  have HI:=Lib.hid hi
  have HZ0:=Lib.hid hz0
  have HZ1:=Lib.hid hz1
  have HZ2:=Lib.hid hz2
  clear hi hz0 hz1 hz2
  have HOWN:=Lib.hid hown
  have HNZ:=Lib.hid hnz
  have HTK:=Lib.hid htk
  have HY:=Lib.hid hy
  have HKS:=Lib.hid hk
  have HR:=Lib.hid (fun W=>ruleOf_any kd W)
  have HRC:=Lib.hid hr
  have hcap:=own_cap hown
  have HB1:=Lib.hid ((Below.refl w.heap.size w).alloc (Nat.le_refl _) (.cells #[.int .i64 kd,.int .i64 x,.int .i64 a] 184))
  have e5:(q:Int)≤(q:Int)+(c:Int):=by omega
  have e6:(q:Int) < (cap:Int):=by omega
  have e7:q < cap:=by omega
  have e10:q≤cap:=by omega
  have e1:¬ cap=q:=by omega
  have e2:(cap == q)=false:=by simp; omega
  have e3:¬ (cap:Int)=(q:Int):=by omega
  have e8:¬ cap≤q:=by omega
  have e9:¬ q=cap:=by omega
  clear hown hnz htk hy hk hr
  generalize (rul kd).1=rc at *
  generalize (rul kd).2.1=rk at *
  generalize (rul kd).2.2=rg at *
  obtain rfl:rc=(c:Int):=HRC.out
  rcases hv with hv | ⟨rfl,hv⟩
  all_goals
    try have hdv:decide (vars≤x)=false:=by simp; omega
    go_enter Tryz.func154,Tryz.ntmps154
    go_wp2_with fail
    refine (HR.out _).mono ?_
    rintro e w1 ⟨rfl,hb1⟩
    have HX1:=Lib.hid (HB1.out.trans (hb1.mono (by simp)))
    have HO1:=Lib.hid (own_below HOWN.out HX1.out)
    clear hb1
    go_wp2_with fail
    have HI1:=Lib.hid (ints_end (own_below HO1.out ((Below.refl _ _).alloc (Nat.le_refl _) (.cells #[.int .i64 (c:Int),.int .i64 rk,.int .i64 rg] 201))) HY.out HKS.out)
    have HT:=Lib.hid (rtks_any (c:Int) rk rg _ ks _ HI1.out.drew HNZ.out (by have:=HKS.out; omega))
    first
      | (go_region_with (go_at_call 167; refine (HT.out).mono ?_; rintro e w2 ⟨rfl,hb2⟩; have HB2:=Lib.hid hb2; clear hb2))
      | fail
    rw [HTK.out]
    have HX2:=Lib.hid ((HX1.out.alloc HX1.out.size _).drew.trans (HB2.out.mono (by simp; have:=HX1.out.size; omega)))
    have HO2:=Lib.hid (own_take (k:=q) (ys:=intVals ys) (own_below HOWN.out HX2.out) (by rw [intVals_len]; exact HY.out) ⟨_,intVals_app ys ks⟩)
    obtain ⟨r0,r1,r2⟩:=((Blk.new w1 201 #[.int .i64 (c:Int),.int .i64 rk,.int .i64 rg]).drewN 1 |>.below HB2.out (by simp)).facts3'
    have hw12:w1.heap.size < w2.heap.size:=by have:=HB2.out.size; simp at this; omega
    have hBw:B≤w2.heap.size:=Nat.le_trans hB HX2.out.size
    have hq1000:q≤1000:=by omega
    go_wp2_with fail
    go_region_law ((refine step_append_lies _ (by rfl) _ _ _ (by rfl) B 3 i0 _ 1 8 Tryz.underlying36 HI.out HZ0.out HZ1.out HZ2.out rfl (by omega) (.slice (some ⟨g,0,none⟩) q cap) q (intVals ys) (by rfl) ((HO2.out.alloc _).drew) ⟨w2.heap.size,0,none⟩ 1 1 [.int .i64 rg] (by rfl) (by rfl) (World.news_of_block (cs:=#[.int .i64 rg]) (t:=3) (fr:=(0,0)) (heap_alloc_new w2 _)) (int_one rg) (by omega) (by unfold maxLen; omega) (by omega) (by simp; omega) (w2.heap.size+1) (by simp) ?_; intro gg cap1 w3 hown1 hgrow hat hlt))
    all_goals
      have HG:=Lib.hid (grown_after (HX2.out.alloc HX2.out.size _).drew hgrow)
      have HO:=Lib.hid hown1
      have HAT:=Lib.hid (show (Value.slice (some ⟨g,0,none⟩) (q+c) cap).ownBlock=some gg ∨ w.heap.size≤gg by
        rcases hat with h | h
        · exact .inl h
        · right; have:=HX2.out.size; omega)
      have HLT:=Lib.hid hlt
      clear hown1 hgrow hat hlt
      go_wp2_with fail
      go_ret2
      refine ⟨gg,cap1,?_,HG.out,?_,HAT.out,HLT.out⟩
      · rw [List.length_append,HY.out]; rfl
      · rw [intVals_app,List.length_append,HY.out]; exact HO.out
end Go.Proofs.YtfgkcjmeiabdjaaGreatDoor
/- The contract of expr.step at a token that takes none, where the row of kinds is full, or is none yet; and all together. -/
namespace Go.Proofs.YtfgkcjmeiabdjaaGreatDoor
open Go.ChangeShapes Go.WideShapes Go.ChangeAt Go.RowKit
set_option linter.unusedVariables false

set_option maxHeartbeats 4000000 in
set_option maxRecDepth 100000 in
theorem step_full (kd x a vars:Int) (B g q:Nat) (ys:List Int) (w:World) (hown:w.ownsRow B 3 1 (.slice (some ⟨g,0,none⟩) q q) q (intVals ys)) (hy:ys.length=q) (hl:q≤1000) (hr:(rul kd).1=0) (hv:(kd == 2)=false ∨ (kd=2∧x < vars)) (hB:B≤w.heap.size) :
    Calls Tryz.prog 154 #[.slice (some ⟨g,0,none⟩) q q,.agg #[.int .i64 kd,.int .i64 x,.int .i64 a],.int .i64 vars] w (SOk B (.slice (some ⟨g,0,none⟩) q q) (ys ++ [(rul kd).2.2]) w):=by
  obtain ⟨i0,hi,hz0,hz1,hz2⟩:=info_parts Tryz.info3
  have HI:=Lib.hid hi
  have HZ0:=Lib.hid hz0
  have HZ1:=Lib.hid hz1
  have HZ2:=Lib.hid hz2
  clear hi hz0 hz1 hz2
  have HOWN:=Lib.hid hown
  have HY:=Lib.hid hy
  have HR:=Lib.hid (fun W=>ruleOf_any kd W)
  have HRC:=Lib.hid hr
  have HB1:=Lib.hid ((Below.refl w.heap.size w).alloc (Nat.le_refl _) (.cells #[.int .i64 kd,.int .i64 x,.int .i64 a] 184))
  clear hown hy hr
  generalize (rul kd).1=rc at *
  generalize (rul kd).2.1=rk at *
  generalize (rul kd).2.2=rg at *
  obtain rfl:rc=0:=HRC.out
  rcases hv with hv | ⟨rfl,hv⟩
  all_goals
    try have hdv:decide (vars≤x)=false:=by simp; omega
    go_enter Tryz.func154,Tryz.ntmps154
    go_wp2_with fail
    refine (HR.out _).mono ?_
    rintro e w1 ⟨rfl,hb1⟩
    have HX1:=Lib.hid (HB1.out.trans (hb1.mono (by simp)))
    clear hb1
    go_wp2_with fail
    have HT:=Lib.hid (fun A cap W=>rtks_any 0 rk rg _ [] W (ints_nil W A cap) (fun k h=>by cases h) (by simp))
    first
      | (go_region_with (go_at_call 167; refine (HT.out _ _ _).mono ?_; rintro e w2 ⟨rfl,hb2⟩; have HB2:=Lib.hid hb2; clear hb2))
      | fail
    have htk:tks rk []=true:=rfl
    rw [htk]
    clear htk
    have HX2:=Lib.hid ((HX1.out.alloc HX1.out.size _).drew.trans (HB2.out.mono (by simp; have:=HX1.out.size; omega)))
    have HO2:=Lib.hid (own_below HOWN.out HX2.out)
    obtain ⟨r0,r1,r2⟩:=((Blk.new w1 201 #[.int .i64 0,.int .i64 rk,.int .i64 rg]).drewN 1 |>.below HB2.out (by simp)).facts3'
    have hw12:w1.heap.size < w2.heap.size:=by have:=HB2.out.size; simp at this; omega
    have hBw:B≤w2.heap.size:=Nat.le_trans hB HX2.out.size
    have hq1000:q≤1000:=by omega
    go_wp2_with fail
    go_region_law ((refine step_append_lies _ (by rfl) _ _ _ (by rfl) B 3 i0 _ 1 8 Tryz.underlying36 HI.out HZ0.out HZ1.out HZ2.out rfl (by omega) (.slice (some ⟨g,0,none⟩) q q) q (intVals ys) (by rfl) ((HO2.out.alloc _).drew) ⟨w2.heap.size,0,none⟩ 1 1 [.int .i64 rg] (by rfl) (by rfl) (World.news_of_block (cs:=#[.int .i64 rg]) (t:=3) (fr:=(0,0)) (heap_alloc_new w2 _)) (int_one rg) (by omega) (by unfold maxLen; omega) (by omega) (by simp; omega) (w2.heap.size+1) (by simp) ?_; intro gg cap1 w3 hown1 hgrow hat hlt))
    all_goals
      have HG:=Lib.hid (grown_after (HX2.out.alloc HX2.out.size _).drew hgrow)
      have HO:=Lib.hid hown1
      have HAT:=Lib.hid (show (Value.slice (some ⟨g,0,none⟩) q q).ownBlock=some gg ∨ w.heap.size≤gg by
        rcases hat with h | h
        · exact .inl h
        · right; have:=HX2.out.size; omega)
      have HLT:=Lib.hid hlt
      clear hown1 hgrow hat hlt
      go_wp2_with fail
      go_ret2
      refine ⟨gg,cap1,?_,HG.out,?_,HAT.out,HLT.out⟩
      · rw [List.length_append,HY.out]; rfl
      · rw [intVals_app,List.length_append,HY.out]; exact HO.out
set_option maxHeartbeats 4000000 in
set_option maxRecDepth 100000 in
theorem step_nil (kd x a vars:Int) (B:Nat) (w:World)  (hr:(rul kd).1=0) (hv:(kd == 2)=false ∨ (kd=2∧x < vars)) (hB:B≤w.heap.size) :
    Calls Tryz.prog 154 #[.slice none 0 0,.agg #[.int .i64 kd,.int .i64 x,.int .i64 a],.int .i64 vars] w (SOk B (.slice none 0 0) ([(rul kd).2.2]) w):=by
  obtain ⟨i0,hi,hz0,hz1,hz2⟩:=info_parts Tryz.info3
  have HI:=Lib.hid hi
  have HZ0:=Lib.hid hz0
  have HZ1:=Lib.hid hz1
  have HZ2:=Lib.hid hz2
  clear hi hz0 hz1 hz2
  have HR:=Lib.hid (fun W=>ruleOf_any kd W)
  have HRC:=Lib.hid hr
  have HB1:=Lib.hid ((Below.refl w.heap.size w).alloc (Nat.le_refl _) (.cells #[.int .i64 kd,.int .i64 x,.int .i64 a] 184))
  clear hr
  generalize (rul kd).1=rc at *
  generalize (rul kd).2.1=rk at *
  generalize (rul kd).2.2=rg at *
  obtain rfl:rc=0:=HRC.out
  rcases hv with hv | ⟨rfl,hv⟩
  all_goals
    try have hdv:decide (vars≤x)=false:=by simp; omega
    go_enter Tryz.func154,Tryz.ntmps154
    go_wp2_with fail
    refine (HR.out _).mono ?_
    rintro e w1 ⟨rfl,hb1⟩
    have HX1:=Lib.hid (HB1.out.trans (hb1.mono (by simp)))
    clear hb1
    go_wp2_with fail
    have HT:=Lib.hid (fun A cap W=>rtks_any 0 rk rg _ [] W (ints_nil W A cap) (fun k h=>by cases h) (by simp))
    first
      | (go_region_with (go_at_call 167; refine (HT.out _ _ _).mono ?_; rintro e w2 ⟨rfl,hb2⟩; have HB2:=Lib.hid hb2; clear hb2))
      | fail
    have htk:tks rk []=true:=rfl
    rw [htk]
    clear htk
    have HX2:=Lib.hid ((HX1.out.alloc HX1.out.size _).drew.trans (HB2.out.mono (by simp; have:=HX1.out.size; omega)))
    have HO2:=Lib.hid (World.ownsRow_nil w2 B 3 1)
    obtain ⟨r0,r1,r2⟩:=((Blk.new w1 201 #[.int .i64 0,.int .i64 rk,.int .i64 rg]).drewN 1 |>.below HB2.out (by simp)).facts3'
    have hw12:w1.heap.size < w2.heap.size:=by have:=HB2.out.size; simp at this; omega
    have hBw:B≤w2.heap.size:=Nat.le_trans hB HX2.out.size
    go_wp2_with fail
    go_region_law ((refine step_append_lies _ (by rfl) _ _ _ (by rfl) B 3 i0 _ 1 8 Tryz.underlying36 HI.out HZ0.out HZ1.out HZ2.out rfl (by omega) (.slice none 0 0) 0 [] (by rfl) ((HO2.out.alloc _).drew) ⟨w2.heap.size,0,none⟩ 1 1 [.int .i64 rg] (by rfl) (by rfl) (World.news_of_block (cs:=#[.int .i64 rg]) (t:=3) (fr:=(0,0)) (heap_alloc_new w2 _)) (int_one rg) (by omega) (by unfold maxLen; omega) (by omega) (by simp; omega) (w2.heap.size+1) (by simp) ?_; intro gg cap1 w3 hown1 hgrow hat hlt))
    all_goals
      have HG:=Lib.hid (grown_after (HX2.out.alloc HX2.out.size _).drew hgrow)
      have HO:=Lib.hid hown1
      have HAT:=Lib.hid (show (Value.slice none 0 0).ownBlock=some gg ∨ w.heap.size≤gg by
        rcases hat with h | h
        · exact .inl h
        · right; have:=HX2.out.size; omega)
      have HLT:=Lib.hid hlt
      clear hown1 hgrow hat hlt
      go_wp2_with fail
      go_ret2
      refine ⟨gg,cap1,?_,HG.out,?_,HAT.out,HLT.out⟩
      · rfl
      · exact HO.out
end Go.Proofs.YtfgkcjmeiabdjaaGreatDoor
/- The contract of expr.step over a stack of values, and of expr.Type. -/
namespace Go.Proofs.YtfgkcjmeiabdjaaGreatDoor
open Go.ChangeShapes Go.WideShapes Go.ChangeAt Go.RowKit
set_option linter.unusedVariables false

def kindsOf (S:List Vl):List Int:=S.reverse.map Vl.kind
def numsOf (S:List Vl):List Int:=S.reverse.map Vl.num
theorem kindsOf_cons (x:Vl) (S:List Vl):kindsOf (x :: S)=kindsOf S ++ [x.kind]:=by simp [kindsOf]
theorem numsOf_cons (x:Vl) (S:List Vl):numsOf (x :: S)=numsOf S ++ [x.num]:=by simp [numsOf]
theorem kindsOf_len (S:List Vl):(kindsOf S).length=S.length:=by simp [kindsOf]
theorem numsOf_len (S:List Vl):(numsOf S).length=S.length:=by simp [numsOf]
def LPost (m:Md) (g B:Nat) (gives:Int) (v:Value) (u:Vl) (S':List Vl) (w:World) (e:Ending) (w':World):Prop :=
  (∃ c,u=.bad c∧(c=4 ∨ c=8)∧SErr c w e w') ∨ (((u=.bad 9∧m.ty=false) ∨ ∃ n,u=.ok gives n)∧SOk B v (kindsOf S' ++ [gives]) w e w')
theorem fb_none_cons {x:Vl} {S:List Vl} (h:fb (x :: S)=none):(∃ k n,x=.ok k n)∧fb S=none:=by
  rw [fb_cons] at h
  cases hS:fb S with
  | some c=>rw [hS] at h; cases h
  | none =>
    rw [hS] at h
    cases x with
    | bad c=>cases h
    | ok k n=>exact ⟨⟨k,n,rfl⟩,rfl⟩
theorem good_kind {k n:Int} (h:Good (.ok k n)):k=1 ∨ k=2:=Or.elim h (fun h=>.inl h.1) (fun h=>.inr h.1)
theorem var_not {m:Md} {t:Tk} (h:¬ (t.1=2∧m.lim≤t.2.1)):(t.1 == 2)=false ∨ (t.1=2∧t.2.1 < m.lim):=by
  by_cases h2:t.1=2
  · exact .inr ⟨h2,by omega⟩
  · exact .inl (by simpa using h2)
theorem step_leaf (m:Md) (t:Tk) (B:Nat) (v:Value) (S:List Vl) (w:World) (hown:w.ownsRow B 3 1 v S.length (intVals (kindsOf S))) (hl:S.length≤1000) (hB:B≤w.heap.size) (ht:tak t=0) :
    Calls Tryz.prog 154 #[v,.agg #[.int .i64 t.1,.int .i64 t.2.1,.int .i64 t.2.2],.int .i64 m.lim] w (LPost m 0 B (rul t.1).2.2 v (leafV m t) S w):=by
  by_cases hv:t.1=2∧m.lim≤t.2.1
  · rw [hv.1]
    refine (step_none v t.2.1 t.2.2 m.lim w hv.2).mono fun e w' h=>.inl ⟨4,leaf_none hv.1 hv.2,.inl rfl,h⟩
  · obtain ⟨n,hn⟩:=leaf_some (m:=m) ht hv
    have hv':=var_not hv
    obtain ⟨r1,r2⟩:=rul_leaf ht
    have hown':=hown
    rcases hown.2 with ⟨rfl,h0⟩ | ⟨g,cap,cur,rfl,_,_,hcap,_⟩
    · obtain rfl:S=[]:=List.eq_nil_of_length_eq_zero h0
      exact (step_nil t.1 t.2.1 t.2.2 m.lim B w r1 hv' hB).mono fun e w' h=>.inr ⟨.inr ⟨n,hn⟩,h⟩
    · by_cases hc:cap=S.length
      · subst hc
        exact (step_full t.1 t.2.1 t.2.2 m.lim B g S.length (kindsOf S) w hown' (kindsOf_len S) hl r1 hv' hB).mono fun e w' h=>.inr ⟨.inr ⟨n,hn⟩,h⟩
      · exact (step_room_ok t.1 t.2.1 t.2.2 m.lim B g S.length 0 cap (kindsOf S) [] w (by rw [List.append_nil]; exact hown') (kindsOf_len S) rfl (by omega) (by omega) r1 (fun k h=>by cases h) hv' hB rfl).mono fun e w' h=>.inr ⟨.inr ⟨n,hn⟩,h⟩
theorem step_un (m:Md) (t:Tk) (B:Nat) (v:Value) (k n:Int) (S:List Vl) (w:World) (hown:w.ownsRow B 3 1 v (S.length+1) (intVals (kindsOf S ++ [k]))) (hl:S.length≤900) (hB:B≤w.heap.size) (ht:tak t=1) (hk:k=1 ∨ k=2) :
    Calls Tryz.prog 154 #[v,.agg #[.int .i64 t.1,.int .i64 t.2.1,.int .i64 t.2.2],.int .i64 m.lim] w (LPost m 0 B (rul t.1).2.2 v (unV t (.ok k n)) S w):=by
  have hown':=hown
  have hr:=un_rul ht
  obtain ⟨s1,s2⟩:=un_step (n:=n) ht hk
  have hne:(t.1 == 2)=false:=by rcases tkk_one ht with rfl | rfl <;> rfl
  rcases hown.2 with ⟨_,h0⟩ | ⟨g,cap,cur,rfl,_,_,hcap,_⟩
  · omega
  · cases htk:tks (rul t.1).2.1 [k] with
    | true=>exact (step_room_ok t.1 t.2.1 t.2.2 m.lim B g S.length 1 cap (kindsOf S) [k] w hown' (kindsOf_len S) rfl (by omega) (by omega) hr (fun j h=>by obtain rfl:=List.mem_singleton.1 h; omega) (.inl hne) hB htk).mono fun e w' h=>.inr ⟨.inr (s1 htk),h⟩
    | false=>exact (step_room_bad t.1 t.2.1 t.2.2 m.lim B g S.length 1 cap (kindsOf S) [k] w hown' (kindsOf_len S) rfl (by omega) (by omega) hr (fun j h=>by obtain rfl:=List.mem_singleton.1 h; omega) (.inl hne) htk).mono fun e w' h=>.inl ⟨8,s2 htk,.inr rfl,h⟩
theorem step_bin (m:Md) (t:Tk) (B:Nat) (v:Value) (ak an bk bn:Int) (S:List Vl) (w:World) (hown:w.ownsRow B 3 1 v (S.length+2) (intVals (kindsOf S ++ [ak,bk]))) (hl:S.length≤900) (hB:B≤w.heap.size) (ht:tak t=2) (ha:ak=1 ∨ ak=2) (hb:bk=1 ∨ bk=2) :
    Calls Tryz.prog 154 #[v,.agg #[.int .i64 t.1,.int .i64 t.2.1,.int .i64 t.2.2],.int .i64 m.lim] w (fun e w'=>LPost m 0 B (rul t.1).2.2 v (binV m.ty t (.ok ak an) (.ok bk bn)) S w e w'∧(tks (rul t.1).2.1 [ak,bk]=false→SErr 8 w e w')):=by
  have hown':=hown
  have hr:=bin_rul ht
  obtain ⟨s1,s2⟩:=bin_step (ty:=m.ty) (an:=an) (bn:=bn) ht ha hb
  have hne:(t.1 == 2)=false:=by obtain ⟨kd,rfl,h3,_⟩:=tkk_two ht; simp; omega
  have hnz:∀ j ∈ [ak,bk],j ≠ 0:=fun j h=>by
    rcases List.mem_cons.1 h with rfl | h
    · omega
    · obtain rfl:=List.mem_singleton.1 h; omega
  rcases hown.2 with ⟨_,h0⟩ | ⟨g,cap,cur,rfl,_,_,hcap,_⟩
  · omega
  · cases htk:tks (rul t.1).2.1 [ak,bk] with
    | true=>exact (step_room_ok t.1 t.2.1 t.2.2 m.lim B g S.length 2 cap (kindsOf S) [ak,bk] w hown' (kindsOf_len S) rfl (by omega) (by omega) hr hnz (.inl hne) hB htk).mono fun e w' h=>⟨.inr ⟨(s1 htk).elim .inr (fun h=>.inl ⟨h.2,h.1⟩),h⟩,fun h=>by cases h⟩
    | false=>exact (step_room_bad t.1 t.2.1 t.2.2 m.lim B g S.length 2 cap (kindsOf S) [ak,bk] w hown' (kindsOf_len S) rfl (by omega) (by omega) hr hnz (.inl hne) htk).mono fun e w' h=>⟨.inl ⟨8,s2 htk,.inr rfl,h⟩,fun _=>h⟩
theorem step_any (m:Md) (t:Tk) (B:Nat) (v:Value) (S:List Vl) (w:World) (hown:w.ownsRow B 3 1 v S.length (intVals (kindsOf S))) (hf:fb S=none) (hg:AllGood S) (hl:S.length≤900) (hB:B≤w.heap.size) (h0:0≤tak t) (hn:tak t≤S.length) :
    Calls Tryz.prog 154 #[v,.agg #[.int .i64 t.1,.int .i64 t.2.1,.int .i64 t.2.2],.int .i64 m.lim] w (fun e w'=>∃ u S',vstep m t S=u :: S'∧fb S'=none∧LPost m 0 B (rul t.1).2.2 v u S' w e w'):=by
  rcases tak_cases t with c | c | c | c
  · omega
  · exact (step_leaf m t B v S w hown (by omega) hB c).mono fun e w' h=>⟨_,_,vstep0 _ c,hf,h⟩
  · rcases S with _ | ⟨x,S⟩
    · rw [c] at hn; simp at hn
    · obtain ⟨⟨k,n,rfl⟩,hf'⟩:=fb_none_cons hf
      rw [kindsOf_cons] at hown
      rw [List.length_cons] at hl
      exact (step_un m t B v k n S w hown (by omega) hB c (good_kind (hg (.ok k n) (by simp)))).mono fun e w' h=>⟨_,_,vstep1 _ _ c,hf',h⟩
  · rcases S with _ | ⟨x,_ | ⟨y,S⟩⟩
    · rw [c] at hn; simp at hn
    · rw [c] at hn; simp at hn
    · obtain ⟨⟨bk,bn,rfl⟩,hf1⟩:=fb_none_cons hf
      obtain ⟨⟨ak,an,rfl⟩,hf2⟩:=fb_none_cons hf1
      rw [kindsOf_cons,kindsOf_cons,List.append_assoc] at hown
      rw [List.length_cons,List.length_cons] at hl
      exact (step_bin m t B v ak an bk bn S w hown (by omega) hB c (good_kind (hg (.ok ak an) (by simp))) (good_kind (hg (.ok bk bn) (by simp)))).mono fun e w' h=>⟨_,_,vstep2 _ _ _ c,hf2,h.1⟩
def ans (m:Md) (ts:List Tk):Vl:=if mayP ts=true then (vs m ts ts.length).headD (.bad 0) else .bad 2
def TyPost (a:Vl) (w:World) (e:Ending) (w':World):Prop :=
  Below w.heap.size w w'∧match a with
    | .ok k _=>e=.returned (.tuple #[.int .i64 k,.nilIface])
    | .bad c=>e=.returned (.tuple #[.int .i64 0,.iface 106 (.int .i64 c)])
theorem stk_le' (ts:List Tk):∀ k,Valid ts k→(stk ts k).length≤k
  | 0,_=>Nat.le_refl _
  | k+1,h=>by
    have h1:=valid_len h
    have h2:=stk_le' ts k (h.mono (by omega))
    have h3:=(h k (by omega)).1
    omega
theorem neq_code_is (p:Value) (w:World):(binOp .neq 30 (.iface 106 p) .nilIface).run Tryz.prog w=.ok (.bool true) w:=by kernel_rfl
theorem ans_may (m:Md) {ts:List Tk} (hm:mayP ts=true):ts.length≤100∧Valid ts ts.length∧vs m ts ts.length=[ans m ts]:=by
  obtain ⟨hl,hV,x,hx⟩:=mayP_valid hm
  obtain ⟨v,hv⟩:=vs_top m hV (by rw [hx]; rfl)
  refine ⟨hl,hV,?_⟩
  unfold ans
  rw [if_pos hm,hv]
  rfl
set_option maxHeartbeats 4000000 in
set_option maxRecDepth 100000 in
theorem type_may (v:Value) (ts:List Tk) (vars:Int) (w:World) (hv:ToksAt w v ts) (hn:∀ t ∈ ts,t.2.1≤9223372036854775807) (hm:mayP ts=true):Calls Tryz.prog 131 #[v,.int .i64 vars] w (TyPost (ans ⟨true,[],vars⟩ ts) w):=by
  have HM:=Lib.hid (may_any v ts w hv (by have:=(mayP_valid hm).1; omega))
  obtain ⟨hl,hV,htop⟩:=ans_may ⟨true,[],vars⟩ hm
  have hlim:(⟨true,[],vars⟩:Md).lim=vars∧(⟨true,[],vars⟩:Md).ty=true:=⟨rfl,rfl⟩
  have HGD:=Lib.hid (fun i hi hvi=>vs_good ⟨true,[],vars⟩ hn (fun x hx=>by cases hx) i hi hvi)
  generalize (⟨true,[],vars⟩:Md)=md at *
  have HLIM:=Lib.hid hlim
  have HMP:=Lib.hid hm
  have HV:=Lib.hid hV
  have HTOP:=Lib.hid htop
  have hnn:=neq_nil_nil
  have hnc:=fun p W=>neq_code_is p W
  obtain ⟨A,cap,rfl,hc,hel⟩:=hv
  have HE:=Lib.hid hel
  clear hel hm hn hV htop hlim
  go_enter Tryz.func131,Tryz.ntmps131
  go_wp2_with fail
  refine HM.out.mono ?_
  rintro e w0 ⟨rfl,hb0⟩
  rw [HMP.out]
  have HB0:=Lib.hid hb0
  clear hb0
  go_wp2_with fail
  go_loopw [6,17] (fun v i wr=>∃ k:Nat,k≤ts.length∧i=.int .i64 (k:Int)∧Hid (fb (vs md ts k)=none)∧Below w.heap.size w wr∧Hid (wr.ownsRow w.heap.size 3 1 v (vs md ts k).length (intVals (kindsOf (vs md ts k))))) (fun _ i _=>ts.length - (intOf i).toNat)
  case atStart=>exact ⟨0,Nat.zero_le _,rfl,Lib.hid rfl,HB0.out,Lib.hid (World.ownsRow_nil _ _ _ _)⟩
  case round =>
    obtain ⟨k,hk,rfl,HF,hb,HOWN⟩:=hrel
    obtain ⟨wo,rfl⟩:∃ wo:World,wo=wr:=⟨_,rfl⟩
    by_cases hlt:k < ts.length
    · obtain ⟨b,o,rfl,hbw,c0,c1,c2⟩:=HE.out k ts[k] (List.getElem?_eq_getElem hlt)
      have c0:wo.cell? ⟨b,o+k * 3,none⟩=_:=(hb.cell (p:=⟨b,_,none⟩) hbw).trans c0
      have c1:wo.cell? ⟨b,o+k * 3+1,none⟩=_:=(hb.cell (p:=⟨b,_,none⟩) hbw).trans c1
      have c2:wo.cell? ⟨b,o+k * 3+2,none⟩=_:=(hb.cell (p:=⟨b,_,none⟩) hbw).trans c2
      have hg:ts.getD k (0,0,0)=ts[k]:=by simp [List.getD,List.getElem?_eq_getElem hlt]
      obtain ⟨ht0,htn⟩:=HV.out k hlt
      have hvl:=vs_len md ts k hk (HV.out.mono hk)
      have hst:=vs_succ md hlt
      have hsl:(vs md ts k).length≤100:=by rw [hvl]; have:=stk_le' ts k (HV.out.mono hk); omega
      rw [hg] at ht0 htn hst
      rw [← hvl] at htn
      generalize ts[k]=t at *
      have HST:=Lib.hid hst
      have HB1:=Lib.hid ((Below.refl wo.heap.size wo).alloc (Nat.le_refl _) (.cells #[.int .i64 t.1,.int .i64 t.2.1,.int .i64 t.2.2] 184))
      have HSA:=Lib.hid (step_any md t w.heap.size _ (vs md ts k) (wo.alloc (.cells #[.int .i64 t.1,.int .i64 t.2.1,.int .i64 t.2.2] 184)) (own_below HOWN.out HB1.out) HF.out (HGD.out k hk (HV.out.mono hk)) (by omega) (by simp; have:=hb.size; omega) ht0 htn)
      rw [HLIM.out.1] at HSA
      have HXA:=Lib.hid (hb.trans (HB1.out.mono hb.size))
      have HLT:=Lib.hid (fun g hg=>(HOWN.out.lt g hg).1)
      clear hg hst hvl hsl htn ht0 HF
      go_wp2_with fail
      refine HSA.out.mono ?_
      rintro e w1 ⟨u,S',hu,hfS,hP⟩
      rcases hP with ⟨c,rfl,hc48,rfl,hb1⟩ | ⟨huk,g,gcap,rfl,hgr,hown',hat,hglt⟩
      · have HA:=Lib.hid (bad_end md HV.out (by omega) HTOP.out (HST.out.trans hu) hfS)
        have HX:=Lib.hid (HXA.out.trans (hb1.mono HXA.out.size))
        clear hu hfS hb1 hc48
        go_wp2_with fail
        go_ret2
        rw [HA.out]
        exact ⟨HX.out,rfl⟩
      · have HU:Hid (∃ n,u=.ok (rul t.1).2.2 n):=Lib.hid (huk.elim (fun h=>by rw [HLIM.out.2] at h; cases h.2) id)
        have HX:=Lib.hid (HXA.out.grown hgr HXA.out.size (fun g hg=>HLT.out g hg))
        have HO:=Lib.hid hown'
        have HUU:=Lib.hid hu
        have HFS:=Lib.hid hfS
        clear hu hfS hgr hown' hat huk
        go_wp2
        go_roundw
        case rel =>
          obtain ⟨n,rfl⟩:=HU.out
          refine ⟨k+1,by omega,by go_num,Lib.hid ?_,HX.out,Lib.hid ?_⟩
          · rw [HST.out,HUU.out,fb_cons,HFS.out]; rfl
          · rw [HST.out,HUU.out,kindsOf_cons,List.length_cons,kindsOf_len]
            have:=HO.out
            rw [List.length_append,kindsOf_len] at this
            exact this
        case measure=>simp [intOf]; omega
    · obtain rfl:k=ts.length:=by omega
      have hF:=HF.out
      have hO:=HOWN.out
      rw [HTOP.out] at hF hO
      obtain ⟨⟨kk,nn,hAn⟩,_⟩:=fb_none_cons hF
      rw [hAn] at hO
      obtain ⟨g,gcap,rfl⟩:=slice_of_own hO
      have hcg:wo.cell? ⟨g,0,none⟩=some (.int .i64 kk):=own_cell hO 0 _ (by simp [intVals,kindsOf,Vl.kind])
      have HAN:=Lib.hid hAn
      clear hF hO hAn HF HOWN
      go_wp2_with fail
      go_ret2
      rw [HAN.out]
      exact ⟨hb,rfl⟩
end Go.Proofs.YtfgkcjmeiabdjaaGreatDoor
