/- The contract of expr.step: what a token takes is taken from the end of a row of kinds, and what it gives put there; or what is amiss. -/
import Derived.Test.YtmhkpjcdkjnlnaaGreatDoorFWErul
import Derived.Deep.RegionWith
import Derived.RegionTactic
import Derived.Deep.AppendLies
import Derived.Deep.RegionLaw
namespace Go.Proofs.YtmhkpjcdkjnlnaaGreatDoor
open Go.ChangeShapes Go.WideShapes Go.ChangeAt Go.RowKit
set_option linter.unusedVariables false

def intVals (xs:List Int):List Value:=xs.map fun x=>.int .i64 x
theorem intVals_len (xs:List Int):(intVals xs).length=xs.length:=by simp [intVals]
theorem intVals_app (xs ys:List Int):intVals (xs ++ ys)=intVals xs ++ intVals ys:=by simp [intVals]
theorem int_one (x:Int):∀ u ∈ [Value.int .i64 x],u.oneCell'=true:=by
 intro u hu
 obtain rfl:=List.mem_singleton.1 hu
 rfl
theorem Tryz.info3:(Tryz.prog.info? 3).map (fun i=>(i.zero,i.size,i.bytes))=some (some (.int .i64 0),1,8):=by kernel_rfl
theorem own_take {w:World} {B:Nat} {e:TypeId} {g n k cap:Nat} {xs ys:List Value} (h:w.ownsRow B e 1 (.slice (some ⟨g,0,none⟩) n cap) n xs) (hk:ys.length=k) (hx:∃ zs,xs=ys ++ zs):w.ownsRow B e 1 (.slice (some ⟨g,0,none⟩) k cap) k ys:=by
 obtain ⟨zs,rfl⟩:=hx
 refine ⟨by omega,?_⟩
 rcases h.2 with ⟨h0,_⟩ | ⟨g',cap',cur,h1,h2,h3,h4,h5,h6,h7⟩
 · cases h0
 · injection h1 with h1 h8 h9
   subst h9
   have hl:=h.1
   rw [List.length_append] at hl
   refine .inr ⟨g',cap,cur,by rw [← hk] at *; injection h1 with h1; rw [h1],h2,h3,by omega,h5,h6,?_⟩
   have:=congrArg (List.take k) h7
   rw [List.take_take,show min k (n * 1)=k * 1 by omega] at this
   rw [this,← hk,List.take_left]
theorem own_cell {w:World} {B:Nat} {e:TypeId} {g n cap:Nat} {xs:List Value} (h:w.ownsRow B e 1 (.slice (some ⟨g,0,none⟩) n cap) n xs) (j:Nat) (x:Value) (hx:xs[j]?=some x):w.cell? ⟨g,j,none⟩=some x:=by
 have hj:j < n:=by have:=(List.getElem?_eq_some_iff.1 hx).1; rw [h.1] at this; omega
 rw [h.cellAt j (by omega),hx]
theorem own_cap {w:World} {B:Nat} {e:TypeId} {g n cap:Nat} {xs:List Value} (h:w.ownsRow B e 1 (.slice (some ⟨g,0,none⟩) n cap) n xs):n≤cap:=by
 rcases h.2 with ⟨h0,_⟩ | ⟨g',cap',cur,h1,h2,h3,h4,h5,h6,h7⟩
 · cases h0
 · injection h1 with h1 h8 h9
   omega
theorem ints_end {w:World} {B:Nat} {e:TypeId} {g q c cap:Nat} {ys ks:List Int} (h:w.ownsRow B e 1 (.slice (some ⟨g,0,none⟩) (q+c) cap) (q+c) (intVals (ys ++ ks))) (hy:ys.length=q) (hk:ks.length=c):NumsAt w (.slice (some ⟨g,q,none⟩) c (cap - q)) ks:=by
 have hcap:=own_cap h
 refine ⟨some ⟨g,q,none⟩,cap - q,by rw [hk],by omega,fun i x hx=>⟨g,q,rfl,(h.lt g rfl).2,?_⟩⟩
 refine own_cell h (q+i) _ ?_
 rw [intVals_app,List.getElem?_append_right (by rw [intVals_len]; omega),intVals_len,hy,Nat.add_sub_cancel_left]
 simp [intVals,hx]
theorem ints_nil (w:World) (A:Option Addr) (cap:Nat):NumsAt w (.slice A 0 cap) []:=⟨A,cap,rfl,Nat.zero_le _,fun i x h=>by simp at h⟩
theorem NumsAt.drew {w:World} {v:Value} {xs:List Int} (h:NumsAt w v xs):NumsAt w.drew v xs:=h
def SErr (c:Int) (w:World) (e:Ending) (w':World):Prop:=e=.returned (.tuple #[.slice none 0 0,.iface 82 (.int .i64 c)])∧Below w.heap.size w w'
def SOk (B:Nat) (v:Value) (L:List Int) (w:World) (e:Ending) (w':World):Prop :=
 ∃ g cap:Nat,e=.returned (.tuple #[.slice (some ⟨g,0,none⟩) L.length cap,.nilIface])∧w.grownBy w' v.ownBlock∧w'.ownsRow B 3 1 (.slice (some ⟨g,0,none⟩) L.length cap) L.length (intVals L)∧(v.ownBlock=some g ∨ w.heap.size≤g)∧g < w'.heap.size
theorem grown_after {w w1 w2:World} {r:Option Nat} (hb:Below w.heap.size w w1) (hg:w1.grownBy w2 r):w.grownBy w2 r :=
 ⟨hg.os.trans hb.os,hg.tape.trans hb.tape,hg.output.trans hb.output,Nat.le_trans hb.size hg.size,fun i hi hr=>(hg.block i (Nat.lt_of_lt_of_le hi hb.size) hr).trans (hb.block i hi)⟩
set_option maxHeartbeats 2000000 in
theorem step_none (v:Value) (x a vars:Int) (w:World) (h:vars≤x):Calls Tryz.prog 178 #[v,.agg #[.int .i64 2,.int .i64 x,.int .i64 a],.int .i64 vars] w (SErr 4 w):=by
 have hd:decide (vars≤x)=true:=by simpa using h
 go_enter Tryz.func178,Tryz.ntmps178
 go_wp2_with fail
 go_ret2
 exact ⟨rfl,(Below.refl _ _).alloc (Nat.le_refl _) _⟩
theorem Blk.facts3' {w:World} {g:Nat} {t:TypeId} {x y z:Value} (h:Blk w g t #[x,y,z]):w.cell? ⟨g,0,none⟩=some x∧w.cell? ⟨g,1,none⟩=some y∧w.cell? ⟨g,2,none⟩=some z:=⟨h.cell 0,h.cell 1,h.cell 2⟩
set_option maxHeartbeats 4000000 in
set_option maxRecDepth 100000 in
theorem step_room_bad (kd x a vars:Int) (B g q c cap:Nat) (ys ks:List Int) (w:World) (hown:w.ownsRow B 3 1 (.slice (some ⟨g,0,none⟩) (q+c) cap) (q+c) (intVals (ys ++ ks))) (hy:ys.length=q) (hk:ks.length=c) (hq:q < cap) (hl:q+c≤1000) (hr:(rul kd).1=(c:Int)) (hnz:∀ k ∈ ks,k ≠ 0) (hv:(kd == 2)=false ∨ (kd=2∧x < vars)) (htk:tks (rul kd).2.1 ks=false) :
 Calls Tryz.prog 178 #[.slice (some ⟨g,0,none⟩) (q+c) cap,.agg #[.int .i64 kd,.int .i64 x,.int .i64 a],.int .i64 vars] w (SErr 8 w):=by
 have HOWN:=Lib.hid hown
 have HNZ:=Lib.hid hnz
 have HTK:=Lib.hid htk
 have HY:=Lib.hid hy
 have HKS:=Lib.hid hk
 have HR:=Lib.hid (fun W=>ruleOf_any kd W)
 have HRC:=Lib.hid hr
 have hcap:=own_cap hown
 have HB1:=Lib.hid ((Below.refl w.heap.size w).alloc (Nat.le_refl _) (.cells #[.int .i64 kd,.int .i64 x,.int .i64 a] 192))
 have e5:(q:Int)≤(q:Int)+(c:Int):=by omega
 have e6:(q:Int) < (cap:Int):=by omega
 have e7:q < cap:=by omega
 have e10:q≤cap:=by omega
 have e1:¬ cap=q:=by omega
 have e2:(cap == q)=false:=by simp; omega
 have e3:¬ (cap:Int)=(q:Int):=by omega
 have e8:¬ cap≤q:=by omega
 have e9:¬ q=cap:=by omega
 clear hown hnz htk hy hk hr
 generalize (rul kd).1=rc at *
 generalize (rul kd).2.1=rk at *
 generalize (rul kd).2.2=rg at *
 obtain rfl:rc=(c:Int):=HRC.out
 rcases hv with hv | ⟨rfl,hv⟩
 all_goals
  try have hdv:decide (vars≤x)=false:=by simp; omega
  go_enter Tryz.func178,Tryz.ntmps178
  go_wp2_with fail
  refine (HR.out _).mono ?_
  rintro e w1 ⟨rfl,hb1⟩
  have HX1:=Lib.hid (HB1.out.trans (hb1.mono (by simp)))
  have HO1:=Lib.hid (own_below HOWN.out HX1.out)
  clear hb1
  go_wp2_with fail
  have HI1:=Lib.hid (ints_end (own_below HO1.out ((Below.refl _ _).alloc (Nat.le_refl _) (.cells #[.int .i64 (c:Int),.int .i64 rk,.int .i64 rg] 220))) HY.out HKS.out)
  have HT:=Lib.hid (rtks_any (c:Int) rk rg _ ks _ HI1.out.drew HNZ.out (by have:=HKS.out; omega))
  first
   | (go_region_with (go_at_call 204; refine (HT.out).mono ?_; rintro e w2 ⟨rfl,hb2⟩; have HB2:=Lib.hid hb2; clear hb2))
   | fail
  rw [HTK.out]
  go_wp2_with fail
  go_ret2
  exact ⟨rfl,(HX1.out.alloc HX1.out.size _).drew.trans (HB2.out.mono (by simp; have:=HX1.out.size; omega))⟩
set_option maxHeartbeats 4000000 in
set_option maxRecDepth 100000 in
theorem step_room_ok (kd x a vars:Int) (B g q c cap:Nat) (ys ks:List Int) (w:World) (hown:w.ownsRow B 3 1 (.slice (some ⟨g,0,none⟩) (q+c) cap) (q+c) (intVals (ys ++ ks))) (hy:ys.length=q) (hk:ks.length=c) (hq:q < cap) (hl:q+c≤1000) (hr:(rul kd).1=(c:Int)) (hnz:∀ k ∈ ks,k ≠ 0) (hv:(kd == 2)=false ∨ (kd=2∧x < vars)) (hB:B≤w.heap.size) (htk:tks (rul kd).2.1 ks=true) :
 Calls Tryz.prog 178 #[.slice (some ⟨g,0,none⟩) (q+c) cap,.agg #[.int .i64 kd,.int .i64 x,.int .i64 a],.int .i64 vars] w (SOk B (.slice (some ⟨g,0,none⟩) (q+c) cap) (ys ++ [(rul kd).2.2]) w):=by
 obtain ⟨i0,hi,hz0,hz1,hz2⟩:=info_parts Tryz.info3
 have HI:=Lib.hid hi
 have HZ0:=Lib.hid hz0
 have HZ1:=Lib.hid hz1
 have HZ2:=Lib.hid hz2
 clear hi hz0 hz1 hz2
 have HOWN:=Lib.hid hown
 have HNZ:=Lib.hid hnz
 have HTK:=Lib.hid htk
 have HY:=Lib.hid hy
 have HKS:=Lib.hid hk
 have HR:=Lib.hid (fun W=>ruleOf_any kd W)
 have HRC:=Lib.hid hr
 have hcap:=own_cap hown
 have HB1:=Lib.hid ((Below.refl w.heap.size w).alloc (Nat.le_refl _) (.cells #[.int .i64 kd,.int .i64 x,.int .i64 a] 192))
 have e5:(q:Int)≤(q:Int)+(c:Int):=by omega
 have e6:(q:Int) < (cap:Int):=by omega
 have e7:q < cap:=by omega
 have e10:q≤cap:=by omega
 have e1:¬ cap=q:=by omega
 have e2:(cap == q)=false:=by simp; omega
 have e3:¬ (cap:Int)=(q:Int):=by omega
 have e8:¬ cap≤q:=by omega
 have e9:¬ q=cap:=by omega
 clear hown hnz htk hy hk hr
 generalize (rul kd).1=rc at *
 generalize (rul kd).2.1=rk at *
 generalize (rul kd).2.2=rg at *
 obtain rfl:rc=(c:Int):=HRC.out
 rcases hv with hv | ⟨rfl,hv⟩
 all_goals
  try have hdv:decide (vars≤x)=false:=by simp; omega
  go_enter Tryz.func178,Tryz.ntmps178
  go_wp2_with fail
  refine (HR.out _).mono ?_
  rintro e w1 ⟨rfl,hb1⟩
  have HX1:=Lib.hid (HB1.out.trans (hb1.mono (by simp)))
  have HO1:=Lib.hid (own_below HOWN.out HX1.out)
  clear hb1
  go_wp2_with fail
  have HI1:=Lib.hid (ints_end (own_below HO1.out ((Below.refl _ _).alloc (Nat.le_refl _) (.cells #[.int .i64 (c:Int),.int .i64 rk,.int .i64 rg] 220))) HY.out HKS.out)
  have HT:=Lib.hid (rtks_any (c:Int) rk rg _ ks _ HI1.out.drew HNZ.out (by have:=HKS.out; omega))
  first
   | (go_region_with (go_at_call 204; refine (HT.out).mono ?_; rintro e w2 ⟨rfl,hb2⟩; have HB2:=Lib.hid hb2; clear hb2))
   | fail
  rw [HTK.out]
  have HX2:=Lib.hid ((HX1.out.alloc HX1.out.size _).drew.trans (HB2.out.mono (by simp; have:=HX1.out.size; omega)))
  have HO2:=Lib.hid (own_take (k:=q) (ys:=intVals ys) (own_below HOWN.out HX2.out) (by rw [intVals_len]; exact HY.out) ⟨_,intVals_app ys ks⟩)
  obtain ⟨r0,r1,r2⟩:=((Blk.new w1 220 #[.int .i64 (c:Int),.int .i64 rk,.int .i64 rg]).drewN 1 |>.below HB2.out (by simp)).facts3'
  have hw12:w1.heap.size < w2.heap.size:=by have:=HB2.out.size; simp at this; omega
  have hBw:B≤w2.heap.size:=Nat.le_trans hB HX2.out.size
  have hq1000:q≤1000:=by omega
  go_wp2_with fail
  go_region_law ((refine step_append_lies _ (by rfl) _ _ _ (by rfl) B 3 i0 _ 1 8 Tryz.underlying36 HI.out HZ0.out HZ1.out HZ2.out rfl (by omega) (.slice (some ⟨g,0,none⟩) q cap) q (intVals ys) (by rfl) ((HO2.out.alloc _).drew) ⟨w2.heap.size,0,none⟩ 1 1 [.int .i64 rg] (by rfl) (by rfl) (World.news_of_block (cs:=#[.int .i64 rg]) (t:=3) (fr:=(0,0)) (heap_alloc_new w2 _)) (int_one rg) (by omega) (by unfold maxLen; omega) (by omega) (by simp; omega) (w2.heap.size+1) (by simp) ?_; intro gg cap1 w3 hown1 hgrow hat hlt))
  all_goals
   have HG:=Lib.hid (grown_after (HX2.out.alloc HX2.out.size _).drew hgrow)
   have HO:=Lib.hid hown1
   have HAT:=Lib.hid (show (Value.slice (some ⟨g,0,none⟩) (q+c) cap).ownBlock=some gg ∨ w.heap.size≤gg by
    rcases hat with h | h
    · exact .inl h
    · right; have:=HX2.out.size; omega)
   have HLT:=Lib.hid hlt
   clear hown1 hgrow hat hlt
   go_wp2_with fail
   go_ret2
   refine ⟨gg,cap1,?_,HG.out,?_,HAT.out,HLT.out⟩
   · rw [List.length_append,HY.out]; rfl
   · rw [intVals_app,List.length_append,HY.out]; exact HO.out

set_option maxHeartbeats 4000000 in
set_option maxRecDepth 100000 in
theorem step_full (kd x a vars:Int) (B g q:Nat) (ys:List Int) (w:World) (hown:w.ownsRow B 3 1 (.slice (some ⟨g,0,none⟩) q q) q (intVals ys)) (hy:ys.length=q) (hl:q≤1000) (hr:(rul kd).1=0) (hv:(kd == 2)=false ∨ (kd=2∧x < vars)) (hB:B≤w.heap.size) :
 Calls Tryz.prog 178 #[.slice (some ⟨g,0,none⟩) q q,.agg #[.int .i64 kd,.int .i64 x,.int .i64 a],.int .i64 vars] w (SOk B (.slice (some ⟨g,0,none⟩) q q) (ys ++ [(rul kd).2.2]) w):=by
 obtain ⟨i0,hi,hz0,hz1,hz2⟩:=info_parts Tryz.info3
 have HI:=Lib.hid hi
 have HZ0:=Lib.hid hz0
 have HZ1:=Lib.hid hz1
 have HZ2:=Lib.hid hz2
 clear hi hz0 hz1 hz2
 have HOWN:=Lib.hid hown
 have HY:=Lib.hid hy
 have HR:=Lib.hid (fun W=>ruleOf_any kd W)
 have HRC:=Lib.hid hr
 have HB1:=Lib.hid ((Below.refl w.heap.size w).alloc (Nat.le_refl _) (.cells #[.int .i64 kd,.int .i64 x,.int .i64 a] 192))
 clear hown hy hr
 generalize (rul kd).1=rc at *
 generalize (rul kd).2.1=rk at *
 generalize (rul kd).2.2=rg at *
 obtain rfl:rc=0:=HRC.out
 rcases hv with hv | ⟨rfl,hv⟩
 all_goals
  try have hdv:decide (vars≤x)=false:=by simp; omega
  go_enter Tryz.func178,Tryz.ntmps178
  go_wp2_with fail
  refine (HR.out _).mono ?_
  rintro e w1 ⟨rfl,hb1⟩
  have HX1:=Lib.hid (HB1.out.trans (hb1.mono (by simp)))
  clear hb1
  go_wp2_with fail
  have HT:=Lib.hid (fun A cap W=>rtks_any 0 rk rg _ [] W (ints_nil W A cap) (fun k h=>by cases h) (by simp))
  first
   | (go_region_with (go_at_call 204; refine (HT.out _ _ _).mono ?_; rintro e w2 ⟨rfl,hb2⟩; have HB2:=Lib.hid hb2; clear hb2))
   | fail
  have htk:tks rk []=true:=rfl
  rw [htk]
  clear htk
  have HX2:=Lib.hid ((HX1.out.alloc HX1.out.size _).drew.trans (HB2.out.mono (by simp; have:=HX1.out.size; omega)))
  have HO2:=Lib.hid (own_below HOWN.out HX2.out)
  obtain ⟨r0,r1,r2⟩:=((Blk.new w1 220 #[.int .i64 0,.int .i64 rk,.int .i64 rg]).drewN 1 |>.below HB2.out (by simp)).facts3'
  have hw12:w1.heap.size < w2.heap.size:=by have:=HB2.out.size; simp at this; omega
  have hBw:B≤w2.heap.size:=Nat.le_trans hB HX2.out.size
  have hq1000:q≤1000:=by omega
  go_wp2_with fail
  go_region_law ((refine step_append_lies _ (by rfl) _ _ _ (by rfl) B 3 i0 _ 1 8 Tryz.underlying36 HI.out HZ0.out HZ1.out HZ2.out rfl (by omega) (.slice (some ⟨g,0,none⟩) q q) q (intVals ys) (by rfl) ((HO2.out.alloc _).drew) ⟨w2.heap.size,0,none⟩ 1 1 [.int .i64 rg] (by rfl) (by rfl) (World.news_of_block (cs:=#[.int .i64 rg]) (t:=3) (fr:=(0,0)) (heap_alloc_new w2 _)) (int_one rg) (by omega) (by unfold maxLen; omega) (by omega) (by simp; omega) (w2.heap.size+1) (by simp) ?_; intro gg cap1 w3 hown1 hgrow hat hlt))
  all_goals
   have HG:=Lib.hid (grown_after (HX2.out.alloc HX2.out.size _).drew hgrow)
   have HO:=Lib.hid hown1
   have HAT:=Lib.hid (show (Value.slice (some ⟨g,0,none⟩) q q).ownBlock=some gg ∨ w.heap.size≤gg by
    rcases hat with h | h
    · exact .inl h
    · right; have:=HX2.out.size; omega)
   have HLT:=Lib.hid hlt
   clear hown1 hgrow hat hlt
   go_wp2_with fail
   go_ret2
   refine ⟨gg,cap1,?_,HG.out,?_,HAT.out,HLT.out⟩
   · rw [List.length_append,HY.out]; rfl
   · rw [intVals_app,List.length_append,HY.out]; exact HO.out
set_option maxHeartbeats 4000000 in
set_option maxRecDepth 100000 in
theorem step_nil (kd x a vars:Int) (B:Nat) (w:World)  (hr:(rul kd).1=0) (hv:(kd == 2)=false ∨ (kd=2∧x < vars)) (hB:B≤w.heap.size) :
 Calls Tryz.prog 178 #[.slice none 0 0,.agg #[.int .i64 kd,.int .i64 x,.int .i64 a],.int .i64 vars] w (SOk B (.slice none 0 0) ([(rul kd).2.2]) w):=by
 obtain ⟨i0,hi,hz0,hz1,hz2⟩:=info_parts Tryz.info3
 have HI:=Lib.hid hi
 have HZ0:=Lib.hid hz0
 have HZ1:=Lib.hid hz1
 have HZ2:=Lib.hid hz2
 clear hi hz0 hz1 hz2
 have HR:=Lib.hid (fun W=>ruleOf_any kd W)
 have HRC:=Lib.hid hr
 have HB1:=Lib.hid ((Below.refl w.heap.size w).alloc (Nat.le_refl _) (.cells #[.int .i64 kd,.int .i64 x,.int .i64 a] 192))
 clear hr
 generalize (rul kd).1=rc at *
 generalize (rul kd).2.1=rk at *
 generalize (rul kd).2.2=rg at *
 obtain rfl:rc=0:=HRC.out
 rcases hv with hv | ⟨rfl,hv⟩
 all_goals
  try have hdv:decide (vars≤x)=false:=by simp; omega
  go_enter Tryz.func178,Tryz.ntmps178
  go_wp2_with fail
  refine (HR.out _).mono ?_
  rintro e w1 ⟨rfl,hb1⟩
  have HX1:=Lib.hid (HB1.out.trans (hb1.mono (by simp)))
  clear hb1
  go_wp2_with fail
  have HT:=Lib.hid (fun A cap W=>rtks_any 0 rk rg _ [] W (ints_nil W A cap) (fun k h=>by cases h) (by simp))
  first
   | (go_region_with (go_at_call 204; refine (HT.out _ _ _).mono ?_; rintro e w2 ⟨rfl,hb2⟩; have HB2:=Lib.hid hb2; clear hb2))
   | fail
  have htk:tks rk []=true:=rfl
  rw [htk]
  clear htk
  have HX2:=Lib.hid ((HX1.out.alloc HX1.out.size _).drew.trans (HB2.out.mono (by simp; have:=HX1.out.size; omega)))
  have HO2:=Lib.hid (World.ownsRow_nil w2 B 3 1)
  obtain ⟨r0,r1,r2⟩:=((Blk.new w1 220 #[.int .i64 0,.int .i64 rk,.int .i64 rg]).drewN 1 |>.below HB2.out (by simp)).facts3'
  have hw12:w1.heap.size < w2.heap.size:=by have:=HB2.out.size; simp at this; omega
  have hBw:B≤w2.heap.size:=Nat.le_trans hB HX2.out.size
  go_wp2_with fail
  go_region_law ((refine step_append_lies _ (by rfl) _ _ _ (by rfl) B 3 i0 _ 1 8 Tryz.underlying36 HI.out HZ0.out HZ1.out HZ2.out rfl (by omega) (.slice none 0 0) 0 [] (by rfl) ((HO2.out.alloc _).drew) ⟨w2.heap.size,0,none⟩ 1 1 [.int .i64 rg] (by rfl) (by rfl) (World.news_of_block (cs:=#[.int .i64 rg]) (t:=3) (fr:=(0,0)) (heap_alloc_new w2 _)) (int_one rg) (by omega) (by unfold maxLen; omega) (by omega) (by simp; omega) (w2.heap.size+1) (by simp) ?_; intro gg cap1 w3 hown1 hgrow hat hlt))
  all_goals
   have HG:=Lib.hid (grown_after (HX2.out.alloc HX2.out.size _).drew hgrow)
   have HO:=Lib.hid hown1
   have HAT:=Lib.hid (show (Value.slice none 0 0).ownBlock=some gg ∨ w.heap.size≤gg by
    rcases hat with h | h
    · exact .inl h
    · right; have:=HX2.out.size; omega)
   have HLT:=Lib.hid hlt
   clear hown1 hgrow hat hlt
   go_wp2_with fail
   go_ret2
   refine ⟨gg,cap1,?_,HG.out,?_,HAT.out,HLT.out⟩
   · rfl
   · exact HO.out
end Go.Proofs.YtmhkpjcdkjnlnaaGreatDoor
