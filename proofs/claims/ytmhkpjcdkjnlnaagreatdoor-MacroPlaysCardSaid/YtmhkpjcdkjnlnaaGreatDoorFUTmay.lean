/- The contracts of parse's reader's brackets and signed; and all of the reader's functions, by induction on the number of steps. -/
import Derived.Test.YtmhkpjcdkjnlnaaGreatDoorFUPlev
import Derived.Deep.RegionWith
import Derived.Test.YtmhkpjcdkjnlnaaGreatDoorFUPpure
import Derived.Test.YtmhkpjcdkjnlnaaGreatDoorFUPkind
import Derived.RegionTactic
namespace Go.Proofs.YtmhkpjcdkjnlnaaGreatDoor
open Go.ChangeShapes Go.WideShapes Go.ChangeAt Go.RowKit
set_option linter.unusedVariables false

set_option maxHeartbeats 1000000 in
theorem brackets_bad (g k k':Nat) (vin v:Value) (out:List Tk) (w:World) (hk:k+1≤1000000) (hS:RSt g vin w k v out)
 (HF:∀ w0,w0=w.setCell ⟨g,1,none⟩ (.int .i64 (k+1:Nat))→Calls Tryz.prog 175 #[.pointer (some ⟨g,0,none⟩)] w0 (RPost g vin (.bad k') v w0)) :
 Calls Tryz.prog 271 #[.pointer (some ⟨g,0,none⟩)] w (RPost g vin (.bad k') v w):=by
 have HH:=Lib.hid HF
 obtain ⟨⟨c0,c1,c2⟩,f0,f1,f2⟩:=hS.blk.facts3
 clear HF hS
 go_enter Tryz.func271,Tryz.ntmps271
 go_wp2_with fail
 refine (HH.out _ (by go_num)).mono ?_
 rintro e w1 ⟨rfl,v1,o1,hk1,hS1⟩
 have HK:=Lib.hid (((Kept.refl g v w).set 1 _).trans hk1)
 have HS1:=Lib.hid hS1
 clear c0 c1 c2 f0 f1 f2 hk1 hS1
 go_wp2_with fail
 go_ret
 exact ⟨rfl,_,_,HK.out,HS1.out⟩
set_option maxHeartbeats 1000000 in
theorem brackets_open (ts:List Tk) (g k k':Nat) (vin v:Value) (out o':List Tk) (w:World) (hl:ts.length≤1000) (hk:k+1≤1000000) (hk':k'≤ts.length) (hT:∀ w',Below g w w'→ToksU g w' vin ts) (hS:RSt g vin w k v out) (hx:knd ts k' ≠ 18)
 (HF:∀ w0,w0=w.setCell ⟨g,1,none⟩ (.int .i64 (k+1:Nat))→Calls Tryz.prog 175 #[.pointer (some ⟨g,0,none⟩)] w0 (RPost g vin (.ok k' o') v w0)) :
 Calls Tryz.prog 271 #[.pointer (some ⟨g,0,none⟩)] w (RPost g vin (.bad k') v w):=by
 have HH:=Lib.hid HF
 have HT:=Lib.hid hT
 have HS:=Lib.hid hS
 have hx':(knd ts k' == 18)=false:=by simpa using hx
 have hx2:(knd ts k' != 18)=true:=by simpa using hx
 obtain ⟨⟨c0,c1,c2⟩,f0,f1,f2⟩:=hS.blk.facts3
 clear HF hS hT hx
 go_enter Tryz.func271,Tryz.ntmps271
 go_wp2_with fail
 refine (HH.out _ (by go_num)).mono ?_
 rintro e w1 ⟨rfl,v1,hk1,hS1⟩
 have HK:=Lib.hid (((Kept.refl g v w).set 1 _).trans hk1)
 have HS1:=Lib.hid hS1
 clear c0 c1 c2 f0 f1 f2 hk1 hS1
 go_wp2_with fail
 refine (kind_any ts g k' vin v1 _ o' (HT.out _ (HS.out.below HK.out)) HS1.out hk' (by omega)).mono ?_
 rintro e w2 ⟨rfl,a,rfl⟩
 go_wp2_with fail
 go_ret
 exact ⟨rfl,_,_,HK.out.drewN a,HS1.out.drewN a⟩
set_option maxHeartbeats 1000000 in
theorem brackets_ok (ts:List Tk) (g k k':Nat) (vin v:Value) (out o':List Tk) (w:World) (hl:ts.length≤1000) (hk:k+1≤1000000) (hk':k'≤ts.length) (hT:∀ w',Below g w w'→ToksU g w' vin ts) (hS:RSt g vin w k v out) (hx:knd ts k'=18)
 (HF:∀ w0,w0=w.setCell ⟨g,1,none⟩ (.int .i64 (k+1:Nat))→Calls Tryz.prog 175 #[.pointer (some ⟨g,0,none⟩)] w0 (RPost g vin (.ok k' o') v w0)) :
 Calls Tryz.prog 271 #[.pointer (some ⟨g,0,none⟩)] w (RPost g vin (.ok (k'+1) o') v w):=by
 have HH:=Lib.hid HF
 have HT:=Lib.hid hT
 have HS:=Lib.hid hS
 have HX:=Lib.hid hx
 obtain ⟨⟨c0,c1,c2⟩,f0,f1,f2⟩:=hS.blk.facts3
 clear HF hS hT hx
 go_enter Tryz.func271,Tryz.ntmps271
 go_wp2_with fail
 refine (HH.out _ (by go_num)).mono ?_
 rintro e w1 ⟨rfl,v1,hk1,hS1⟩
 have HK:=Lib.hid (((Kept.refl g v w).set 1 _).trans hk1)
 have HS1:=Lib.hid hS1
 clear c0 c1 c2 f0 f1 f2
 obtain ⟨⟨c0,c1,c2⟩,f0,f1,f2⟩:=hS1.blk.facts3
 clear hk1 hS1
 go_wp2_with fail
 refine (kind_any ts g k' vin v1 _ o' (HT.out _ (HS.out.below HK.out)) HS1.out hk' (by omega)).mono ?_
 rintro e w2 ⟨rfl,a,rfl⟩
 rw [HX.out]
 go_wp2_with fail
 go_ret
 exact ⟨rfl,_,(HK.out.drewN a).set 1 _,(HS1.out.drewN a).at_ (k'+1)⟩
theorem brackets_any (ts:List Tk) (g n k:Nat) (vin v:Value) (out:List Tk) (R:Res) (w:World) (hl:ts.length≤1000) (hF:Reads ts g vin n 1 175) (hk:k < ts.length) (ho:out.length≤k) (hT:ToksU g w vin ts) (hS:RSt g vin w k v out)
 (hR:thenR (rd ts n 1 (k+1) out) (fun k' o=>if knd ts k'=18 then some (.ok (k'+1) o) else some (.bad k'))=some R) :
 Calls Tryz.prog 271 #[.pointer (some ⟨g,0,none⟩)] w (RPost g vin R v w):=by
 have hb:Below g w (w.setCell ⟨g,1,none⟩ (.int .i64 (k+1:Nat))):=(Below.refl _ _).setCell (by simp) _
 have hT':∀ w',Below g w w'→ToksU g w' vin ts:=fun w' h=>hT.below h
 have h:=fun R1 h1=>hF (k+1) out R1 v _ h1 hk (by omega) (hT.below hb) (hS.at_ (k+1))
 rcases thenR_some hR with ⟨k',h1,rfl⟩ | ⟨k',o',h1,h2⟩
 · exact brackets_bad g k k' vin v out w (by omega) hS (fun w0 h0=>h0 ▸ h _ h1)
 · have hf:=rd_fits ts n 1 (k+1) out _ h1 hk
   unfold Fits at hf
   by_cases h3:knd ts k'=18
   · rw [if_pos h3] at h2
     injection h2 with h2
     subst h2
     exact brackets_ok ts g k k' vin v out o' w hl (by omega) (by omega) hT' hS h3 (fun w0 h0=>h0 ▸ h _ h1)
   · rw [if_neg h3] at h2
     injection h2 with h2
     subst h2
     exact brackets_open ts g k k' vin v out o' w hl (by omega) (by omega) hT' hS h3 (fun w0 h0=>h0 ▸ h _ h1)

theorem opd_iff {x:Int} (h:isOpd x=true):x=1 ∨ x=2 ∨ x=15 ∨ x=16:=by unfold isOpd at h; simp at h; omega
theorem opd_not {x:Int} (h:isOpd x=false):(x == 1)=false∧(x == 2)=false∧(x == 15)=false∧(x == 16)=false:=by unfold isOpd at h; simp at h; simp; omega
set_option maxHeartbeats 2000000 in
theorem signed_any (ts:List Tk) (g n:Nat) (vin:Value) (hl:ts.length≤1000) (hF:Reads ts g vin n 6 268) (hF1:Reads ts g vin n 1 175):Reads ts g vin (n+1) 6 268:=by
 intro k out R v w hR hk ho hT hS
 have HF:=Lib.hid hF
 have HF1:=Lib.hid hF1
 have HT:=Lib.hid hT
 have HS:=Lib.hid hS
 by_cases c4:knd ts k=4
 · rw [rd6_neg n out c4] at hR
   have hlt:k < ts.length:=knd_lt (by omega)
   have HR:=Lib.hid hR
   have HC:=Lib.hid c4
   clear hR hT hS hF hF1 c4
   go_enter Tryz.func268,Tryz.ntmps268
   go_wp2_with fail
   refine (kind_any ts g k vin v _ out HT.out HS.out hk (by omega)).mono ?_
   rintro e w1 ⟨rfl,a,rfl⟩
   rw [HC.out]
   go_wp2_with fail
   refine (operator_any ts g 268 n 6 k _ vin v out R _ HF.out enters95 hlt hl ho (HT.out.drewN a) (HS.out.drewN a) HR.out).mono ?_
   intro e w3 hp
   obtain ⟨b,rfl⟩:=hp.ret
   have HP:=Lib.hid (hp.after ((Kept.refl g v w).drewN a))
   clear hp
   go_wp2_with fail
   go_ret
   exact HP.out
 · by_cases co:isOpd (knd ts k)=true
   · rw [rd6_opd n out co] at hR
     injection hR with hR
     subst hR
     have hlt:k < ts.length:=opd_lt co
     have HX:=Lib.hid (rfl:knd ts k=knd ts k)
     have hx:=opd_iff co
     generalize hg:knd ts k=x at hx HX
     have HG:=Lib.hid hg
     have H4:(x == 4)=false:=by rw [← hg]; simpa using c4
     clear hT hS hF hF1 c4 co hg HX
     rcases hx with rfl | rfl | rfl | rfl
     all_goals
      go_enter Tryz.func268,Tryz.ntmps268
      go_wp2_with fail
      refine (kind_any ts g k vin v _ out HT.out HS.out hk (by omega)).mono ?_
      rintro e w1 ⟨rfl,a,rfl⟩
      rw [HG.out]
      go_wp2_with fail
      refine (operand_any ts g k vin v out _ hlt hl ho (HT.out.drewN a) (HS.out.drewN a)).mono ?_
      rintro e w2 ⟨rfl,v1,hk1,hs1⟩
      have HK:=Lib.hid (((Kept.refl g v w).drewN a).trans hk1)
      have HS1:=Lib.hid hs1
      clear hk1 hs1
      go_wp2_with fail
      go_ret
      rw [HG.out] at HS1
      exact ⟨rfl,_,HK.out,HS1.out⟩
   · have co':isOpd (knd ts k)=false:=by simpa using co
     by_cases c17:knd ts k=17
     · rw [rd6_open n out c17] at hR
       have hlt:k < ts.length:=knd_lt (by omega)
       have HR:=Lib.hid hR
       have HC:=Lib.hid c17
       clear hR hT hS hF hF1 c4 co co' c17
       go_enter Tryz.func268,Tryz.ntmps268
       go_wp2_with fail
       refine (kind_any ts g k vin v _ out HT.out HS.out hk (by omega)).mono ?_
       rintro e w1 ⟨rfl,a,rfl⟩
       rw [HC.out]
       go_wp2_with fail
       refine (brackets_any ts g n k vin v out R _ hl HF1.out hlt ho (HT.out.drewN a) (HS.out.drewN a) HR.out).mono ?_
       intro e w3 hp
       obtain ⟨b,rfl⟩:=hp.ret
       have HP:=Lib.hid (hp.after ((Kept.refl g v w).drewN a))
       clear hp
       go_wp2_with fail
       go_ret
       exact HP.out
     · rw [rd6_bad n out c4 co' c17] at hR
       injection hR with hR
       subst hR
       obtain ⟨n1,n2,n15,n16⟩:=opd_not co'
       have n4:(knd ts k == 4)=false:=by simpa using c4
       have n17:(knd ts k == 17)=false:=by simpa using c17
       clear hT hS hF hF1 c4 co co' c17
       go_enter Tryz.func268,Tryz.ntmps268
       go_wp2_with fail
       refine (kind_any ts g k vin v _ out HT.out HS.out hk (by omega)).mono ?_
       rintro e w1 ⟨rfl,a,rfl⟩
       generalize knd ts k=x at *
       go_wp2_with fail
       go_ret
       exact ⟨rfl,_,_,(Kept.refl g v w).drewN a,HS.out.drewN a⟩

structure AllRead (ts:List Tk) (g:Nat) (vin:Value) (n:Nat):Prop where
 r1:Reads ts g vin n 1 175
 r2:Reads ts g vin n 2 201
 r3:Reads ts g vin n 3 217
 r4:Reads ts g vin n 4 246
 r5:Reads ts g vin n 5 259
 r6:Reads ts g vin n 6 268
theorem reads_zero (ts:List Tk) (g:Nat) (vin:Value) (lv F:Nat):Reads ts g vin 0 lv F:=fun k out R v w h=>by rw [rd] at h; cases h
theorem all_read (ts:List Tk) (g:Nat) (vin:Value) (hl:ts.length≤1000):∀ n,∀ m,m≤n→AllRead ts g vin m
 | 0,m,hm=>by
  obtain rfl:m=0:=by omega
  exact ⟨reads_zero _ _ _ _ _,reads_zero _ _ _ _ _,reads_zero _ _ _ _ _,reads_zero _ _ _ _ _,reads_zero _ _ _ _ _,reads_zero _ _ _ _ _⟩
 | n+1,m,hm=>by
  have ih:=all_read ts g vin hl n
  by_cases h:m≤n
  · exact ih m h
  · obtain rfl:m=n+1:=by omega
    have hn:=ih n (Nat.le_refl n)
    exact ⟨ors_any ts g n vin hl fun m h=>(ih m h).r2,ands_any ts g n vin hl fun m h=>(ih m h).r3,not_any ts g n vin hl hn.r3 hn.r4,sum_any ts g n vin hl fun m h=>(ih m h).r5,product_any ts g n vin hl fun m h=>(ih m h).r6,signed_any ts g n vin hl hn.r6 hn.r1⟩

def isAll (ts:List Tk) (k:Nat):Bool:=decide (k=ts.length)
def WPost (ts:List Tk) (g:Nat) (vin:Value) (R:Res) (v:Value) (w:World) (e:Ending) (w':World):Prop :=
 match R with
 | .ok k o=>e=.returned (.bool (isAll ts k))∧∃ v',Kept g v w w' v'∧RSt g vin w' k v' o
 | .bad k=>e=.returned (.bool false)∧∃ v' o,Kept g v w w' v'∧RSt g vin w' k v' o
set_option maxHeartbeats 1000000 in
theorem whole_bad (ts:List Tk) (g k:Nat) (vin v:Value) (w:World) (H0:∀ w0,w0=w.drew→Calls Tryz.prog 175 #[.pointer (some ⟨g,0,none⟩)] w0 (RPost g vin (.bad k) v w)) :
 Calls Tryz.prog 135 #[.pointer (some ⟨g,0,none⟩)] w (WPost ts g vin (.bad k) v w):=by
 have H:=Lib.hid H0
 clear H0
 go_enter Tryz.func135,Tryz.ntmps135
 go_wp2_with fail
 refine wp_region_any (by kernel_rfl) ?_
 change wpAny _ _ _ _ _ _ _ (World.drew _)
 refine wpAny_take (i:=0) (v:=.pointer (some ⟨g,0,none⟩)) rfl (by kernel_rfl) (by kernel_rfl) (by kernel_rfl) (fun _ _ _ h=>h) (Or.inl ⟨by kernel_rfl,fun w=>by go_simp⟩) ?_
 simp only [Act.put,List.setIfInBounds_toArray,List.set_cons_zero,List.set_cons_succ,List.getElem_toArray,List.getElem_cons_zero]
 refine wpAny_ready (rs:=[1]) (by kernel_rfl) (by simp) ?_
 refine AllReady.cons rfl (fun K hK=>?_) AllReady.nil
 go_simp
 refine (H.out _ rfl).mono ?_
 rintro e w1 ⟨rfl,v1,o1,hk1,hs1⟩
 have HK:=Lib.hid hk1
 have HS:=Lib.hid hs1
 clear hk1 hs1
 go_simp
 refine hK _ _ ?_
 clear hK K
 refine wpAny_take (i:=2) (v:=.bool false) rfl (by kernel_rfl) (by kernel_rfl) (by kernel_rfl) (fun _ _ _ h=>h) (Or.inl ⟨by kernel_rfl,fun w=>by go_simp⟩) ?_
 simp only [Act.put,List.setIfInBounds_toArray,List.set_cons_zero,List.set_cons_succ,List.getElem_toArray,List.getElem_cons_zero,List.getElem_cons_succ]
 refine wpAny_take (i:=3) (v:=undef) rfl (by kernel_rfl) (by kernel_rfl) (by kernel_rfl) (fun _ _ _ h=>h) (Or.inr ⟨by kernel_rfl,rfl⟩) ?_
 simp only [Act.put,List.setIfInBounds_toArray,List.set_cons_zero,List.set_cons_succ,List.getElem_toArray,List.getElem_cons_zero,List.getElem_cons_succ]
 refine wpAny_take (i:=4) (v:=undef) rfl (by kernel_rfl) (by kernel_rfl) (by kernel_rfl) (fun _ _ _ h=>h) (Or.inr ⟨by kernel_rfl,rfl⟩) ?_
 simp only [Act.put,List.setIfInBounds_toArray,List.set_cons_zero,List.set_cons_succ,List.getElem_toArray,List.getElem_cons_zero,List.getElem_cons_succ]
 refine wpAny_take (i:=5) (v:=undef) rfl (by kernel_rfl) (by kernel_rfl) (by kernel_rfl) (fun _ _ _ h=>h) (Or.inr ⟨by kernel_rfl,rfl⟩) ?_
 simp only [Act.put,List.setIfInBounds_toArray,List.set_cons_zero,List.set_cons_succ,List.getElem_toArray,List.getElem_cons_zero,List.getElem_cons_succ]
 refine wpAny_take (i:=6) (v:=undef) rfl (by kernel_rfl) (by kernel_rfl) (by kernel_rfl) (fun _ _ _ h=>h) (Or.inr ⟨by kernel_rfl,rfl⟩) ?_
 simp only [Act.put,List.setIfInBounds_toArray,List.set_cons_zero,List.set_cons_succ,List.getElem_toArray,List.getElem_cons_zero,List.getElem_cons_succ]
 refine wpAny_take (i:=7) (v:=undef) rfl (by kernel_rfl) (by kernel_rfl) (by kernel_rfl) (fun _ _ _ h=>h) (Or.inr ⟨by kernel_rfl,rfl⟩) ?_
 simp only [Act.put,List.setIfInBounds_toArray,List.set_cons_zero,List.set_cons_succ,List.getElem_toArray,List.getElem_cons_zero,List.getElem_cons_succ]
 refine wpAny_take (i:=8) (v:=undef) rfl (by kernel_rfl) (by kernel_rfl) (by kernel_rfl) (fun _ _ _ h=>h) (Or.inr ⟨by kernel_rfl,rfl⟩) ?_
 simp only [Act.put,List.setIfInBounds_toArray,List.set_cons_zero,List.set_cons_succ,List.getElem_toArray,List.getElem_cons_zero,List.getElem_cons_succ]
 refine wpAny_take (i:=9) (v:=undef) rfl (by kernel_rfl) (by kernel_rfl) (by kernel_rfl) (fun _ _ _ h=>h) (Or.inr ⟨by kernel_rfl,rfl⟩) ?_
 simp only [Act.put,List.setIfInBounds_toArray,List.set_cons_zero,List.set_cons_succ,List.getElem_toArray,List.getElem_cons_zero,List.getElem_cons_succ]
 refine wpAny_take (i:=10) (v:=undef) rfl (by kernel_rfl) (by kernel_rfl) (by kernel_rfl) (fun _ _ _ h=>h) (Or.inr ⟨by kernel_rfl,rfl⟩) ?_
 simp only [Act.put,List.setIfInBounds_toArray,List.set_cons_zero,List.set_cons_succ,List.getElem_toArray,List.getElem_cons_zero,List.getElem_cons_succ]
 refine wpAny_take (i:=11) (v:=undef) rfl (by kernel_rfl) (by kernel_rfl) (by kernel_rfl) (fun _ _ _ h=>h) (Or.inr ⟨by kernel_rfl,rfl⟩) ?_
 simp only [Act.put,List.setIfInBounds_toArray,List.set_cons_zero,List.set_cons_succ,List.getElem_toArray,List.getElem_cons_zero,List.getElem_cons_succ]
 refine wpAny_take (i:=12) (v:=undef) rfl (by kernel_rfl) (by kernel_rfl) (by kernel_rfl) (fun _ _ _ h=>h) (Or.inr ⟨by kernel_rfl,rfl⟩) ?_
 simp only [Act.put,List.setIfInBounds_toArray,List.set_cons_zero,List.set_cons_succ,List.getElem_toArray,List.getElem_cons_zero,List.getElem_cons_succ]
 refine wpAny_take (i:=13) (v:=.bool false) rfl (by kernel_rfl) (by kernel_rfl) (by kernel_rfl) (fun _ _ _ h=>h) (Or.inl ⟨by kernel_rfl,fun w=>by go_simp⟩) ?_
 simp only [Act.put,List.setIfInBounds_toArray,List.set_cons_zero,List.set_cons_succ,List.getElem_toArray,List.getElem_cons_zero,List.getElem_cons_succ]
 refine wpAny_take (i:=14) (v:=.bool false) rfl (by kernel_rfl) (by kernel_rfl) (by kernel_rfl) (fun _ _ _ h=>h) (Or.inl ⟨by kernel_rfl,fun w=>by go_simp⟩) ?_
 simp only [Act.put,List.setIfInBounds_toArray,List.set_cons_zero,List.set_cons_succ,List.getElem_toArray,List.getElem_cons_zero,List.getElem_cons_succ]
 refine wpAny_done (by kernel_rfl) ?_ _
 go_wp2_with fail
 go_ret
 exact ⟨rfl,_,_,HK.out,HS.out⟩
set_option maxHeartbeats 2000000 in
theorem whole_ok (ts:List Tk) (g k cap:Nat) (A:Option Addr) (v:Value) (o:List Tk) (w:World) (hk:k≤ts.length) (hl:ts.length≤1000) (H0:∀ w0,w0=w.drew→Calls Tryz.prog 175 #[.pointer (some ⟨g,0,none⟩)] w0 (RPost g (.slice A ts.length cap) (.ok k o) v w)) :
 Calls Tryz.prog 135 #[.pointer (some ⟨g,0,none⟩)] w (WPost ts g (.slice A ts.length cap) (.ok k o) v w):=by
 have H:=Lib.hid H0
 have hb:(k == ts.length)=isAll ts k:=by unfold isAll; rw [Bool.eq_iff_iff]; simp
 have hb2:((k:Int) == (ts.length:Int))=isAll ts k:=by unfold isAll; rw [Bool.eq_iff_iff]; simp; omega
 have hb3:decide (k=ts.length)=isAll ts k:=rfl
 clear H0
 generalize hq:isAll ts k=q at *
 have HQ:=Lib.hid hq
 clear hq
 go_enter Tryz.func135,Tryz.ntmps135
 go_wp2_with fail
 first
  | (go_region_with (go_at_call 175; refine (H.out _ rfl).mono ?_; rintro e w1 ⟨rfl,v1,hk1,hs1⟩; have HK:=Lib.hid hk1; have HS:=Lib.hid hs1; obtain ⟨⟨c0,c1,c2⟩,_⟩:=hs1.blk.facts3; clear hk1 hs1))
  | fail
 all_goals
  go_wp2_with fail
  go_ret
  exact ⟨by rw [HQ.out]; rfl,_,HK.out,HS.out⟩

def tak (t:Tk):Int :=
 if t.2.2 ≠ 0 ∨ t.2.1 < 0 then -1
 else if t.1=1 ∨ (t.1=2∧t.2.1 < 26) then 0
 else if t.2.1 ≠ 0 then -1
 else if t.1=15 ∨ t.1=16 then 0
 else if t.1=14 ∨ t.1=19 then 1
 else if lvl t.1 ≠ 0 then 2 else -1
def cnt:List Tk→Int→Option Int
 | [],n=>some n
 | t :: r,n=>if tak t < 0 ∨ n < tak t then none else cnt r (n - tak t+1)
def mayP (ts:List Tk):Bool:=decide (ts.length≤100) && decide (cnt ts 0=some 1)
def sgn (t:Tk):List UInt8 :=
 if t.1=19 then [45] else if t.1=14 then [110,111,116,32] else if t.1=12 then [32,97,110,100,32] else if t.1=13 then [32,111,114,32] else textB t
structure El where
 s:List UInt8
 f:Nat
 ok:Bool
def unS (t:Tk) (x:List UInt8):List UInt8:=[40] ++ sgn t ++ x ++ [41]
def binS (t:Tk) (a b:List UInt8):List UInt8:=[40] ++ a ++ sgn t ++ b ++ [41]
def step (i:Nat) (t:Tk) (S:List El):List El :=
 if tak t=0 then ⟨textB t,i,true⟩ :: S
 else if tak t=1 then
  match S with
  | x :: S'=>⟨unS t x.s,x.f,x.ok && decide ((unS t x.s).length≤200)⟩ :: S'
  | []=>[]
 else
  match S with
  | b :: a :: S'=>⟨binS t a.s b.s,a.f,b.ok && (a.ok && decide ((binS t a.s b.s).length≤200))⟩ :: S'
  | _=>[]
def stk (ts:List Tk):Nat→List El
 | 0=>[]
 | i+1=>step i (ts.getD i (0,0,0)) (stk ts i)
def Valid (ts:List Tk) (i:Nat):Prop:=∀ j,j < i→0≤tak (ts.getD j (0,0,0))∧tak (ts.getD j (0,0,0))≤(stk ts j).length
theorem Valid.mono {ts:List Tk} {i j:Nat} (h:Valid ts i) (hj:j≤i):Valid ts j:=fun k hk=>h k (by omega)
theorem tak_cases (t:Tk):tak t=-1 ∨ tak t=0 ∨ tak t=1 ∨ tak t=2:=by
 unfold tak
 split; · simp
 split; · simp
 split; · simp
 split; · simp
 split; · simp
 split <;> simp
theorem step_len {i:Nat} {t:Tk} {S:List El} (h0:0≤tak t) (h:tak t≤S.length):((step i t S).length:Int)=S.length - tak t+1:=by
 unfold step
 rcases tak_cases t with c | c | c | c
 · omega
 · rw [if_pos c,c]; simp
 · rw [if_neg (by omega),if_pos c,c]
   rcases S with _ | ⟨x,S'⟩
   · simp at h; omega
   · simp
 · rw [if_neg (by omega),if_neg (by omega),c]
   rcases S with _ | ⟨x,_ | ⟨y,S'⟩⟩
   · simp at h; omega
   · simp at h; omega
   · simp; omega
theorem valid_len {ts:List Tk} {i:Nat} (h:Valid ts (i+1)):((stk ts (i+1)).length:Int)=(stk ts i).length - tak (ts.getD i (0,0,0))+1:=step_len (h i (by omega)).1 (h i (by omega)).2
theorem cnt_valid (ts:List Tk) (c:Int):∀ (n j:Nat),ts.length - j≤n→j≤ts.length→Valid ts j→cnt (ts.drop j) (stk ts j).length=some c→Valid ts ts.length∧((stk ts ts.length).length:Int)=c
 | 0,j,h,hj,hv,hc=>by
  obtain rfl:j=ts.length:=by omega
  rw [List.drop_length,cnt] at hc
  injection hc with hc
  exact ⟨hv,hc⟩
 | n+1,j,h,hj,hv,hc=>by
  rcases Nat.lt_or_ge j ts.length with hlt | hge
  · rw [List.drop_eq_getElem_cons hlt,cnt] at hc
    have hg:ts.getD j (0,0,0)=ts[j]:=by simp [List.getD,List.getElem?_eq_getElem hlt]
    by_cases hn:tak ts[j] < 0 ∨ ((stk ts j).length:Int) < tak ts[j]
    · rw [if_pos hn] at hc; cases hc
    · rw [if_neg hn] at hc
      have hv1:Valid ts (j+1):=fun k hk=>by
       rcases Nat.lt_or_ge k j with h1 | h1
       · exact hv k h1
       · obtain rfl:k=j:=by omega
         rw [hg]; omega
      refine cnt_valid ts c n (j+1) (by omega) (by omega) hv1 ?_
      rw [valid_len hv1,hg]; exact hc
  · obtain rfl:j=ts.length:=by omega
    rw [List.drop_length,cnt] at hc
    injection hc with hc
    exact ⟨hv,hc⟩
theorem mayP_valid {ts:List Tk} (h:mayP ts=true):ts.length≤100∧Valid ts ts.length∧∃ x,stk ts ts.length=[x]:=by
 unfold mayP at h
 simp only [Bool.and_eq_true,decide_eq_true_eq] at h
 obtain ⟨hv,hl⟩:=cnt_valid ts 1 ts.length 0 (by omega) (by omega) (fun j hj=>by omega) h.2
 refine ⟨h.1,hv,?_⟩
 rcases hs:stk ts ts.length with _ | ⟨x,_ | ⟨y,S⟩⟩
 · rw [hs] at hl; simp at hl
 · exact ⟨x,rfl⟩
 · rw [hs] at hl; simp at hl; omega

def TakPost (t:Tk) (w:World) (e:Ending) (w':World):Prop :=
 Below w.heap.size w w'∧∃ n:Int,e=.returned (.tuple #[.int .i64 n,.bool (decide (0≤tak t))])∧(0≤tak t→n=tak t)∧0≤n∧n≤2
theorem tak_num (n:Int):tak (1,n,0)=if 0≤n then 0 else -1:=by unfold tak; simp only; by_cases h:0≤n <;> simp [h] <;> omega
theorem tak_var (n:Int):tak (2,n,0)=if 0≤n∧n≤25 then 0 else -1:=by
 unfold tak
 simp only
 by_cases h:0≤n∧n≤25
 · rw [if_neg (by omega),if_pos (Or.inr ⟨trivial,by omega⟩),if_pos h]
 · rw [if_neg h]
   by_cases h1:n < 0
   · rw [if_pos (by omega)]
   · rw [if_neg (by omega),if_neg (by omega),if_pos (by omega)]
theorem tak_at (k n a:Int) (h:a ≠ 0):tak (k,n,a)=-1:=by unfold tak; simp only; rw [if_pos (.inl h)]
def fixTak (k:Int):Int:=if k=15 ∨ k=16 then 0 else if k=14 ∨ k=19 then 1 else if lvl k ≠ 0 then 2 else -1
theorem tak_fix (k n:Int) (h1:k ≠ 1) (h2:k ≠ 2):tak (k,n,0)=if n=0 then fixTak k else -1:=by
 unfold tak fixTak
 simp only
 by_cases h:n=0
 · rw [if_neg (by omega),if_neg (by omega),if_neg (by omega),if_pos h]
 · rw [if_neg h]
   by_cases h3:n < 0
   · rw [if_pos (by omega)]
   · rw [if_neg (by omega),if_neg (by omega),if_pos (by omega)]
theorem tp_mk {t:Tk} {w w':World} {n:Int} {b:Bool} (hb:Below w.heap.size w w') (h0:0≤n) (h2:n≤2) (h:b=decide (0≤tak t)) (hn:0≤tak t→n=tak t):TakPost t w (.returned (.tuple #[.int .i64 n,.bool b])) w' :=
 ⟨hb,n,by rw [h],hn,h0,h2⟩
set_option maxHeartbeats 2000000 in
set_option maxRecDepth 100000 in
theorem takes_at (k n a:Int) (w:World) (h:a ≠ 0):Calls Tryz.prog 202 #[.agg #[.int .i64 k,.int .i64 n,.int .i64 a]] w (TakPost (k,n,a) w):=by
 have ha:(a == 0)=false:=by simpa using h
 have ha2:(a != 0)=true:=by simpa using h
 have HT:=Lib.hid (tak_at k n a h)
 clear h
 go_enter Tryz.func202,Tryz.ntmps202
 go_wp2
 go_ret2
 exact tp_mk ((Below.refl _ _).alloc (Nat.le_refl _) _) (by omega) (by omega) (by rw [HT.out]; rfl) (by rw [HT.out]; omega)
set_option maxHeartbeats 2000000 in
set_option maxRecDepth 100000 in
theorem takes_num (n:Int) (w:World):Calls Tryz.prog 202 #[.agg #[.int .i64 1,.int .i64 n,.int .i64 0]] w (TakPost (1,n,0) w):=by
 have HT:=Lib.hid (tak_num n)
 by_cases h:0≤n
 · have hd:decide (0≤n)=true:=by simpa using h
   go_enter Tryz.func202,Tryz.ntmps202
   go_wp2
   go_quiet (fail)
   go_wp2
   go_ret2
   exact tp_mk (below_drewN ((Below.refl _ _).alloc (Nat.le_refl _) _) _) (by omega) (by omega) (by rw [HT.out,if_pos h]; rfl) (by rw [HT.out,if_pos h]; omega)
 · have hd:decide (0≤n)=false:=by simpa using h
   go_enter Tryz.func202,Tryz.ntmps202
   go_wp2
   go_quiet (fail)
   go_wp2
   go_ret2
   exact tp_mk (below_drewN ((Below.refl _ _).alloc (Nat.le_refl _) _) _) (by omega) (by omega) (by rw [HT.out,if_neg (by simpa using hd)]; rfl) (by rw [HT.out,if_neg (by simpa using hd)]; omega)
set_option maxHeartbeats 4000000 in
set_option maxRecDepth 100000 in
theorem takes_var (n:Int) (w:World):Calls Tryz.prog 202 #[.agg #[.int .i64 2,.int .i64 n,.int .i64 0]] w (TakPost (2,n,0) w):=by
 have HT:=Lib.hid (tak_var n)
 by_cases h:0≤n
 · have hd:decide (0≤n)=true:=by simpa using h
   by_cases h2:n≤25
   · have hd2:decide (n≤25)=true:=by simpa using h2
     go_enter Tryz.func202,Tryz.ntmps202
     go_wp2
     go_quiet (fail)
     go_wp2
     go_ret2
     exact tp_mk (below_drewN ((Below.refl _ _).alloc (Nat.le_refl _) _) _) (by omega) (by omega) (by rw [HT.out,if_pos ⟨h,h2⟩]; rfl) (by rw [HT.out,if_pos ⟨h,h2⟩]; omega)
   · have hd2:decide (n≤25)=false:=by simpa using h2
     have HN:=Lib.hid (show ¬ (0≤n∧n≤25) by omega)
     go_enter Tryz.func202,Tryz.ntmps202
     go_wp2
     go_quiet (fail)
     go_wp2
     go_ret2
     exact tp_mk (below_drewN ((Below.refl _ _).alloc (Nat.le_refl _) _) _) (by omega) (by omega) (by rw [HT.out,if_neg HN.out]; rfl) (by rw [HT.out,if_neg HN.out]; omega)
 · have hd:decide (0≤n)=false:=by simpa using h
   have HN:=Lib.hid (show ¬ (0≤n∧n≤25) by omega)
   go_enter Tryz.func202,Tryz.ntmps202
   go_wp2
   go_quiet (fail)
   go_wp2
   go_ret2
   exact tp_mk (below_drewN ((Below.refl _ _).alloc (Nat.le_refl _) _) _) (by omega) (by omega) (by rw [HT.out,if_neg HN.out]; rfl) (by rw [HT.out,if_neg HN.out]; omega)
theorem fix_end {k n m:Int} (h:tak (k,n,0)=if n=0 then m else -1) (h0:0≤m):(n == 0)=decide (0≤tak (k,n,0))∧(0≤tak (k,n,0)→m=tak (k,n,0)):=by
 rw [h]
 by_cases hn:n=0
 · rw [if_pos hn]; subst hn; simp [h0]
 · rw [if_neg hn]; simp [hn]
set_option maxHeartbeats 8000000 in
set_option maxRecDepth 100000 in
theorem takes_fix (k n:Int) (w:World) (h:(k=15 ∨ k=16) ∨ (k=14 ∨ k=19) ∨ k=3 ∨ k=4 ∨ k=5 ∨ k=6 ∨ k=7 ∨ k=8 ∨ k=9 ∨ k=10 ∨ k=11 ∨ k=12 ∨ k=13):Calls Tryz.prog 202 #[.agg #[.int .i64 k,.int .i64 n,.int .i64 0]] w (TakPost (k,n,0) w):=by
 have hf:0≤fixTak k:=by rcases h with (rfl | rfl) | (rfl | rfl) | rfl | rfl | rfl | rfl | rfl | rfl | rfl | rfl | rfl | rfl | rfl <;> decide
 have HT:=Lib.hid (fix_end (tak_fix k n (by omega) (by omega)) hf)
 clear hf
 rcases h with (rfl | rfl) | (rfl | rfl) | rfl | rfl | rfl | rfl | rfl | rfl | rfl | rfl | rfl | rfl | rfl
 all_goals
  go_enter Tryz.func202,Tryz.ntmps202
  go_wp2
  go_quiet (fail)
  go_wp2
  go_ret2
  exact tp_mk (below_drewN ((Below.refl _ _).alloc (Nat.le_refl _) _) _) (by omega) (by omega) HT.out.1 HT.out.2
theorem fixTak_none {k:Int} (h:¬ ((k=15 ∨ k=16) ∨ (k=14 ∨ k=19) ∨ k=3 ∨ k=4 ∨ k=5 ∨ k=6 ∨ k=7 ∨ k=8 ∨ k=9 ∨ k=10 ∨ k=11 ∨ k=12 ∨ k=13)):fixTak k=-1:=by
 have h0:lvl k=0:=by
  unfold lvl
  rw [if_neg (by omega),if_neg (by omega),if_neg (by omega),if_neg (by omega),if_neg (by omega)]
 unfold fixTak
 rw [if_neg (by omega),if_neg (by omega),if_neg (by omega)]
set_option maxHeartbeats 4000000 in
set_option maxRecDepth 100000 in
theorem takes_none (k n:Int) (w:World) (h1:k ≠ 1) (h2:k ≠ 2) (h:¬ ((k=15 ∨ k=16) ∨ (k=14 ∨ k=19) ∨ k=3 ∨ k=4 ∨ k=5 ∨ k=6 ∨ k=7 ∨ k=8 ∨ k=9 ∨ k=10 ∨ k=11 ∨ k=12 ∨ k=13)):Calls Tryz.prog 202 #[.agg #[.int .i64 k,.int .i64 n,.int .i64 0]] w (TakPost (k,n,0) w):=by
 have HT:Hid (tak (k,n,0)=-1):=Lib.hid (by rw [tak_fix k n h1 h2,fixTak_none h]; split <;> rfl)
 have b1:(k == 1)=false:=by simpa using h1
 have b2:(k == 2)=false:=by simpa using h2
 have b15:(k == 15)=false:=by simp; omega
 have b16:(k == 16)=false:=by simp; omega
 have b14:(k == 14)=false:=by simp; omega
 have b19:(k == 19)=false:=by simp; omega
 have b3:(k == 3)=false:=by simp; omega
 have b4:(k == 4)=false:=by simp; omega
 have b5:(k == 5)=false:=by simp; omega
 have b6:(k == 6)=false:=by simp; omega
 have b7:(k == 7)=false:=by simp; omega
 have b8:(k == 8)=false:=by simp; omega
 have b9:(k == 9)=false:=by simp; omega
 have b10:(k == 10)=false:=by simp; omega
 have b11:(k == 11)=false:=by simp; omega
 have b12:(k == 12)=false:=by simp; omega
 have b13:(k == 13)=false:=by simp; omega
 clear h h1 h2
 go_enter Tryz.func202,Tryz.ntmps202
 go_wp2
 go_ret2
 exact tp_mk ((Below.refl _ _).alloc (Nat.le_refl _) _) (by omega) (by omega) (by rw [HT.out]; rfl) (by rw [HT.out]; omega)
theorem takes_any (t:Tk) (w:World):Calls Tryz.prog 202 #[.agg #[.int .i64 t.1,.int .i64 t.2.1,.int .i64 t.2.2]] w (TakPost t w):=by
 obtain ⟨k,n,a⟩:=t
 by_cases ha:a=0
 · subst ha
   by_cases h1:k=1
   · subst h1; exact takes_num n w
   · by_cases h2:k=2
     · subst h2; exact takes_var n w
     · by_cases h:(k=15 ∨ k=16) ∨ (k=14 ∨ k=19) ∨ k=3 ∨ k=4 ∨ k=5 ∨ k=6 ∨ k=7 ∨ k=8 ∨ k=9 ∨ k=10 ∨ k=11 ∨ k=12 ∨ k=13
       · exact takes_fix k n w h
       · exact takes_none k n w h1 h2 h
 · exact takes_at k n a w ha


theorem cnt_none {t:Tk} {r:List Tk} {n:Int} (h:tak t < 0 ∨ n < tak t):cnt (t :: r) n=none:=by rw [cnt,if_pos h]
theorem cnt_some {t:Tk} {r:List Tk} {n:Int} (h0:0≤tak t) (h:tak t≤n):cnt (t :: r) n=cnt r (n - tak t+1):=by rw [cnt,if_neg (by omega)]
theorem drop_at {ts:List Tk} {k:Nat} (h:k < ts.length):ts.drop k=ts[k] :: ts.drop (k+1):=List.drop_eq_getElem_cons h
def isOne (C:Option Int):Bool:=decide (C=some 1)
theorem isOne_some (n:Int):isOne (some n)=(n == 1):=by unfold isOne; rw [Bool.eq_iff_iff]; simp
theorem mayP_eq (ts:List Tk):mayP ts=(decide (ts.length≤100) && isOne (cnt ts 0)):=rfl
set_option maxHeartbeats 4000000 in
set_option maxRecDepth 100000 in
theorem may_near (v:Value) (ts:List Tk) (w:World) (hv:ToksAt w v ts) (hl:ts.length≤100):Calls Tryz.prog 177 #[v] w fun e w'=>e=.returned (.bool (isOne (cnt ts 0)))∧Below w.heap.size w w':=by
 obtain ⟨A,cap,rfl,hc,hel⟩:=hv
 have HE:=Lib.hid hel
 clear hel
 go_enter Tryz.func177,Tryz.ntmps177
 go_wp2_with fail
 go_loopw [3,13] (fun l i wr=>∃ (k:Nat) (n:Int),k≤ts.length∧i=.int .i64 (k:Int)∧l=.int .i64 n∧0≤n∧n≤k∧Hid (cnt (ts.drop k) n=cnt ts 0)∧Below w.heap.size w wr) (fun _ i _=>ts.length - (intOf i).toNat)
 case atStart=>exact ⟨0,0,Nat.zero_le _,rfl,rfl,by omega,by omega,Lib.hid rfl,Below.refl _ _⟩
 case round =>
  obtain ⟨k,n,hk,rfl,rfl,hn0,hnk,hC,hb⟩:=hrel
  obtain ⟨wo,rfl⟩:∃ wo:World,wo=wr:=⟨_,rfl⟩
  by_cases hlt:k < ts.length
  · obtain ⟨b,o,rfl,hbw,c0,c1,c2⟩:=HE.out k ts[k] (List.getElem?_eq_getElem hlt)
    have c0:wo.cell? ⟨b,o+k * 3,none⟩=_:=(hb.cell (p:=⟨b,_,none⟩) hbw).trans c0
    have c1:wo.cell? ⟨b,o+k * 3+1,none⟩=_:=(hb.cell (p:=⟨b,_,none⟩) hbw).trans c1
    have c2:wo.cell? ⟨b,o+k * 3+2,none⟩=_:=(hb.cell (p:=⟨b,_,none⟩) hbw).trans c2
    have HD:=Lib.hid (drop_at hlt)
    generalize ts[k]=t at *
    have HB1:=Lib.hid ((Below.refl wo.heap.size wo).alloc (Nat.le_refl _) (.cells #[.int .i64 t.1,.int .i64 t.2.1,.int .i64 t.2.2] 192))
    by_cases ht:0≤tak t
    · have hd:decide (0≤tak t)=true:=by simpa using ht
      by_cases hq:tak t≤n
      · have HC:=Lib.hid (show cnt (ts.drop (k+1)) (n - tak t+1)=cnt ts 0 by rw [← hC.out,HD.out,cnt_some ht hq])
        clear hC
        go_wp2_with fail
        refine (takes_any t _).mono ?_
        rintro e w1 ⟨hb1,m,rfl,hm,hm0,hm2⟩
        rw [hd]
        have hmt:=hm ht
        have HX:=Lib.hid ((hb.trans (HB1.out.mono hb.size)).trans (hb1.mono (by simp; have:=hb.size; omega)))
        have HMT:=Lib.hid hmt
        have hq':m≤n:=by omega
        clear hm hmt hb1 ht hq hd
        go_wp2
        go_roundw
        case rel=>exact ⟨k+1,n - m+1,by omega,by go_num,by congr 1; omega,by omega,by omega,Lib.hid (by rw [HMT.out]; exact HC.out),HX.out⟩
        case measure=>simp [intOf]; omega
      · have HC:=Lib.hid (show cnt ts 0=none by rw [← hC.out,HD.out,cnt_none (.inr (by omega))])
        clear hC
        go_wp2_with fail
        refine (takes_any t _).mono ?_
        rintro e w1 ⟨hb1,m,rfl,hm,hm0,hm2⟩
        rw [hd]
        have hmt:=hm ht
        have HX:=Lib.hid ((hb.trans (HB1.out.mono hb.size)).trans (hb1.mono (by simp; have:=hb.size; omega)))
        have hq':n < m:=by omega
        clear hm hmt hb1 ht hq hd
        go_wp2
        go_ret
        exact ⟨by rw [HC.out]; rfl,HX.out⟩
    · have hd:decide (0≤tak t)=false:=by simpa using ht
      have HC:=Lib.hid (show cnt ts 0=none by rw [← hC.out,HD.out,cnt_none (.inl (by omega))])
      clear hC
      go_wp2_with fail
      refine (takes_any t _).mono ?_
      rintro e w1 ⟨hb1,m,rfl,hm,hm0,hm2⟩
      rw [hd]
      have HX:=Lib.hid ((hb.trans (HB1.out.mono hb.size)).trans (hb1.mono (by simp; have:=hb.size; omega)))
      clear hm hb1 ht hd
      go_wp2
      go_ret
      exact ⟨by rw [HC.out]; rfl,HX.out⟩
  · obtain rfl:k=ts.length:=by omega
    have HC:=Lib.hid (show cnt ts 0=some n by rw [← hC.out,List.drop_length,cnt])
    clear hC
    go_wp2
    go_ret
    exact ⟨by rw [HC.out,isOne_some]; rfl,hb⟩
set_option maxHeartbeats 1000000 in
theorem may_far (v:Value) (ts:List Tk) (w:World) (hv:ToksAt w v ts) (hl:100 < ts.length) (hl2:ts.length≤1000000):Calls Tryz.prog 177 #[v] w fun e w'=>e=.returned (.bool false)∧Below w.heap.size w w':=by
 obtain ⟨A,cap,rfl,hc,hel⟩:=hv
 clear hel
 go_enter Tryz.func177,Tryz.ntmps177
 go_wp2_with fail
 go_ret
 exact ⟨rfl,Below.refl _ _⟩
theorem may_any (v:Value) (ts:List Tk) (w:World) (hv:ToksAt w v ts) (hl2:ts.length≤1000000):Calls Tryz.prog 177 #[v] w fun e w'=>e=.returned (.bool (mayP ts))∧Below w.heap.size w w':=by
 rw [mayP_eq]
 by_cases h:ts.length≤100
 · rw [decide_eq_true h,Bool.true_and]; exact may_near v ts w hv h
 · rw [decide_eq_false h,Bool.false_and]; exact may_far v ts w hv (by omega) hl2

end Go.Proofs.YtmhkpjcdkjnlnaaGreatDoor
