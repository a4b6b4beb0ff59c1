/- The contracts of parse's reader's brackets and signed; and all of the reader's functions, by induction on the number of steps. -/
import Derived.Test.YtmhkpjcdkjnlnaaGreatDoorFWPlev
import Derived.Deep.RegionWith
namespace Go.Proofs.YtmhkpjcdkjnlnaaGreatDoor
open Go.ChangeShapes Go.WideShapes Go.ChangeAt Go.RowKit
set_option linter.unusedVariables false

set_option maxHeartbeats 1000000 in
theorem brackets_bad (g k k':Nat) (vin v:Value) (out:List Tk) (w:World) (hk:k+1≤1000000) (hS:RSt g vin w k v out)
 (HF:∀ w0,w0=w.setCell ⟨g,1,none⟩ (.int .i64 (k+1:Nat))→Calls Tryz.prog 175 #[.pointer (some ⟨g,0,none⟩)] w0 (RPost g vin (.bad k') v w0)) :
 Calls Tryz.prog 271 #[.pointer (some ⟨g,0,none⟩)] w (RPost g vin (.bad k') v w):=by
 have HH:=Lib.hid HF
 obtain ⟨⟨c0,c1,c2⟩,f0,f1,f2⟩:=hS.blk.facts3
 clear HF hS
 go_enter Tryz.func271,Tryz.ntmps271
 go_wp2_with fail
 refine (HH.out _ (by go_num)).mono ?_
 rintro e w1 ⟨rfl,v1,o1,hk1,hS1⟩
 have HK:=Lib.hid (((Kept.refl g v w).set 1 _).trans hk1)
 have HS1:=Lib.hid hS1
 clear c0 c1 c2 f0 f1 f2 hk1 hS1
 go_wp2_with fail
 go_ret
 exact ⟨rfl,_,_,HK.out,HS1.out⟩
set_option maxHeartbeats 1000000 in
theorem brackets_open (ts:List Tk) (g k k':Nat) (vin v:Value) (out o':List Tk) (w:World) (hl:ts.length≤1000) (hk:k+1≤1000000) (hk':k'≤ts.length) (hT:∀ w',Below g w w'→ToksU g w' vin ts) (hS:RSt g vin w k v out) (hx:knd ts k' ≠ 18)
 (HF:∀ w0,w0=w.setCell ⟨g,1,none⟩ (.int .i64 (k+1:Nat))→Calls Tryz.prog 175 #[.pointer (some ⟨g,0,none⟩)] w0 (RPost g vin (.ok k' o') v w0)) :
 Calls Tryz.prog 271 #[.pointer (some ⟨g,0,none⟩)] w (RPost g vin (.bad k') v w):=by
 have HH:=Lib.hid HF
 have HT:=Lib.hid hT
 have HS:=Lib.hid hS
 have hx':(knd ts k' == 18)=false:=by simpa using hx
 have hx2:(knd ts k' != 18)=true:=by simpa using hx
 obtain ⟨⟨c0,c1,c2⟩,f0,f1,f2⟩:=hS.blk.facts3
 clear HF hS hT hx
 go_enter Tryz.func271,Tryz.ntmps271
 go_wp2_with fail
 refine (HH.out _ (by go_num)).mono ?_
 rintro e w1 ⟨rfl,v1,hk1,hS1⟩
 have HK:=Lib.hid (((Kept.refl g v w).set 1 _).trans hk1)
 have HS1:=Lib.hid hS1
 clear c0 c1 c2 f0 f1 f2 hk1 hS1
 go_wp2_with fail
 refine (kind_any ts g k' vin v1 _ o' (HT.out _ (HS.out.below HK.out)) HS1.out hk' (by omega)).mono ?_
 rintro e w2 ⟨rfl,a,rfl⟩
 go_wp2_with fail
 go_ret
 exact ⟨rfl,_,_,HK.out.drewN a,HS1.out.drewN a⟩
set_option maxHeartbeats 1000000 in
theorem brackets_ok (ts:List Tk) (g k k':Nat) (vin v:Value) (out o':List Tk) (w:World) (hl:ts.length≤1000) (hk:k+1≤1000000) (hk':k'≤ts.length) (hT:∀ w',Below g w w'→ToksU g w' vin ts) (hS:RSt g vin w k v out) (hx:knd ts k'=18)
 (HF:∀ w0,w0=w.setCell ⟨g,1,none⟩ (.int .i64 (k+1:Nat))→Calls Tryz.prog 175 #[.pointer (some ⟨g,0,none⟩)] w0 (RPost g vin (.ok k' o') v w0)) :
 Calls Tryz.prog 271 #[.pointer (some ⟨g,0,none⟩)] w (RPost g vin (.ok (k'+1) o') v w):=by
 have HH:=Lib.hid HF
 have HT:=Lib.hid hT
 have HS:=Lib.hid hS
 have HX:=Lib.hid hx
 obtain ⟨⟨c0,c1,c2⟩,f0,f1,f2⟩:=hS.blk.facts3
 clear HF hS hT hx
 go_enter Tryz.func271,Tryz.ntmps271
 go_wp2_with fail
 refine (HH.out _ (by go_num)).mono ?_
 rintro e w1 ⟨rfl,v1,hk1,hS1⟩
 have HK:=Lib.hid (((Kept.refl g v w).set 1 _).trans hk1)
 have HS1:=Lib.hid hS1
 clear c0 c1 c2 f0 f1 f2
 obtain ⟨⟨c0,c1,c2⟩,f0,f1,f2⟩:=hS1.blk.facts3
 clear hk1 hS1
 go_wp2_with fail
 refine (kind_any ts g k' vin v1 _ o' (HT.out _ (HS.out.below HK.out)) HS1.out hk' (by omega)).mono ?_
 rintro e w2 ⟨rfl,a,rfl⟩
 rw [HX.out]
 go_wp2_with fail
 go_ret
 exact ⟨rfl,_,(HK.out.drewN a).set 1 _,(HS1.out.drewN a).at_ (k'+1)⟩
theorem brackets_any (ts:List Tk) (g n k:Nat) (vin v:Value) (out:List Tk) (R:Res) (w:World) (hl:ts.length≤1000) (hF:Reads ts g vin n 1 175) (hk:k < ts.length) (ho:out.length≤k) (hT:ToksU g w vin ts) (hS:RSt g vin w k v out)
 (hR:thenR (rd ts n 1 (k+1) out) (fun k' o=>if knd ts k'=18 then some (.ok (k'+1) o) else some (.bad k'))=some R) :
 Calls Tryz.prog 271 #[.pointer (some ⟨g,0,none⟩)] w (RPost g vin R v w):=by
 have hb:Below g w (w.setCell ⟨g,1,none⟩ (.int .i64 (k+1:Nat))):=(Below.refl _ _).setCell (by simp) _
 have hT':∀ w',Below g w w'→ToksU g w' vin ts:=fun w' h=>hT.below h
 have h:=fun R1 h1=>hF (k+1) out R1 v _ h1 hk (by omega) (hT.below hb) (hS.at_ (k+1))
 rcases thenR_some hR with ⟨k',h1,rfl⟩ | ⟨k',o',h1,h2⟩
 · exact brackets_bad g k k' vin v out w (by omega) hS (fun w0 h0=>h0 ▸ h _ h1)
 · have hf:=rd_fits ts n 1 (k+1) out _ h1 hk
   unfold Fits at hf
   by_cases h3:knd ts k'=18
   · rw [if_pos h3] at h2
     injection h2 with h2
     subst h2
     exact brackets_ok ts g k k' vin v out o' w hl (by omega) (by omega) hT' hS h3 (fun w0 h0=>h0 ▸ h _ h1)
   · rw [if_neg h3] at h2
     injection h2 with h2
     subst h2
     exact brackets_open ts g k k' vin v out o' w hl (by omega) (by omega) hT' hS h3 (fun w0 h0=>h0 ▸ h _ h1)

theorem opd_iff {x:Int} (h:isOpd x=true):x=1 ∨ x=2 ∨ x=15 ∨ x=16:=by unfold isOpd at h; simp at h; omega
theorem opd_not {x:Int} (h:isOpd x=false):(x == 1)=false∧(x == 2)=false∧(x == 15)=false∧(x == 16)=false:=by unfold isOpd at h; simp at h; simp; omega
set_option maxHeartbeats 2000000 in
theorem signed_any (ts:List Tk) (g n:Nat) (vin:Value) (hl:ts.length≤1000) (hF:Reads ts g vin n 6 268) (hF1:Reads ts g vin n 1 175):Reads ts g vin (n+1) 6 268:=by
 intro k out R v w hR hk ho hT hS
 have HF:=Lib.hid hF
 have HF1:=Lib.hid hF1
 have HT:=Lib.hid hT
 have HS:=Lib.hid hS
 by_cases c4:knd ts k=4
 · rw [rd6_neg n out c4] at hR
   have hlt:k < ts.length:=knd_lt (by omega)
   have HR:=Lib.hid hR
   have HC:=Lib.hid c4
   clear hR hT hS hF hF1 c4
   go_enter Tryz.func268,Tryz.ntmps268
   go_wp2_with fail
   refine (kind_any ts g k vin v _ out HT.out HS.out hk (by omega)).mono ?_
   rintro e w1 ⟨rfl,a,rfl⟩
   rw [HC.out]
   go_wp2_with fail
   refine (operator_any ts g 268 n 6 k _ vin v out R _ HF.out enters95 hlt hl ho (HT.out.drewN a) (HS.out.drewN a) HR.out).mono ?_
   intro e w3 hp
   obtain ⟨b,rfl⟩:=hp.ret
   have HP:=Lib.hid (hp.after ((Kept.refl g v w).drewN a))
   clear hp
   go_wp2_with fail
   go_ret
   exact HP.out
 · by_cases co:isOpd (knd ts k)=true
   · rw [rd6_opd n out co] at hR
     injection hR with hR
     subst hR
     have hlt:k < ts.length:=opd_lt co
     have HX:=Lib.hid (rfl:knd ts k=knd ts k)
     have hx:=opd_iff co
     generalize hg:knd ts k=x at hx HX
     have HG:=Lib.hid hg
     have H4:(x == 4)=false:=by rw [← hg]; simpa using c4
     clear hT hS hF hF1 c4 co hg HX
     rcases hx with rfl | rfl | rfl | rfl
     all_goals
      go_enter Tryz.func268,Tryz.ntmps268
      go_wp2_with fail
      refine (kind_any ts g k vin v _ out HT.out HS.out hk (by omega)).mono ?_
      rintro e w1 ⟨rfl,a,rfl⟩
      rw [HG.out]
      go_wp2_with fail
      refine (operand_any ts g k vin v out _ hlt hl ho (HT.out.drewN a) (HS.out.drewN a)).mono ?_
      rintro e w2 ⟨rfl,v1,hk1,hs1⟩
      have HK:=Lib.hid (((Kept.refl g v w).drewN a).trans hk1)
      have HS1:=Lib.hid hs1
      clear hk1 hs1
      go_wp2_with fail
      go_ret
      rw [HG.out] at HS1
      exact ⟨rfl,_,HK.out,HS1.out⟩
   · have co':isOpd (knd ts k)=false:=by simpa using co
     by_cases c17:knd ts k=17
     · rw [rd6_open n out c17] at hR
       have hlt:k < ts.length:=knd_lt (by omega)
       have HR:=Lib.hid hR
       have HC:=Lib.hid c17
       clear hR hT hS hF hF1 c4 co co' c17
       go_enter Tryz.func268,Tryz.ntmps268
       go_wp2_with fail
       refine (kind_any ts g k vin v _ out HT.out HS.out hk (by omega)).mono ?_
       rintro e w1 ⟨rfl,a,rfl⟩
       rw [HC.out]
       go_wp2_with fail
       refine (brackets_any ts g n k vin v out R _ hl HF1.out hlt ho (HT.out.drewN a) (HS.out.drewN a) HR.out).mono ?_
       intro e w3 hp
       obtain ⟨b,rfl⟩:=hp.ret
       have HP:=Lib.hid (hp.after ((Kept.refl g v w).drewN a))
       clear hp
       go_wp2_with fail
       go_ret
       exact HP.out
     · rw [rd6_bad n out c4 co' c17] at hR
       injection hR with hR
       subst hR
       obtain ⟨n1,n2,n15,n16⟩:=opd_not co'
       have n4:(knd ts k == 4)=false:=by simpa using c4
       have n17:(knd ts k == 17)=false:=by simpa using c17
       clear hT hS hF hF1 c4 co co' c17
       go_enter Tryz.func268,Tryz.ntmps268
       go_wp2_with fail
       refine (kind_any ts g k vin v _ out HT.out HS.out hk (by omega)).mono ?_
       rintro e w1 ⟨rfl,a,rfl⟩
       generalize knd ts k=x at *
       go_wp2_with fail
       go_ret
       exact ⟨rfl,_,_,(Kept.refl g v w).drewN a,HS.out.drewN a⟩

structure AllRead (ts:List Tk) (g:Nat) (vin:Value) (n:Nat):Prop where
 r1:Reads ts g vin n 1 175
 r2:Reads ts g vin n 2 201
 r3:Reads ts g vin n 3 217
 r4:Reads ts g vin n 4 246
 r5:Reads ts g vin n 5 259
 r6:Reads ts g vin n 6 268
theorem reads_zero (ts:List Tk) (g:Nat) (vin:Value) (lv F:Nat):Reads ts g vin 0 lv F:=fun k out R v w h=>by rw [rd] at h; cases h
theorem all_read (ts:List Tk) (g:Nat) (vin:Value) (hl:ts.length≤1000):∀ n,∀ m,m≤n→AllRead ts g vin m
 | 0,m,hm=>by
  obtain rfl:m=0:=by omega
  exact ⟨reads_zero _ _ _ _ _,reads_zero _ _ _ _ _,reads_zero _ _ _ _ _,reads_zero _ _ _ _ _,reads_zero _ _ _ _ _,reads_zero _ _ _ _ _⟩
 | n+1,m,hm=>by
  have ih:=all_read ts g vin hl n
  by_cases h:m≤n
  · exact ih m h
  · obtain rfl:m=n+1:=by omega
    have hn:=ih n (Nat.le_refl n)
    exact ⟨ors_any ts g n vin hl fun m h=>(ih m h).r2,ands_any ts g n vin hl fun m h=>(ih m h).r3,not_any ts g n vin hl hn.r3 hn.r4,sum_any ts g n vin hl fun m h=>(ih m h).r5,product_any ts g n vin hl fun m h=>(ih m h).r6,signed_any ts g n vin hl hn.r6 hn.r1⟩

def isAll (ts:List Tk) (k:Nat):Bool:=decide (k=ts.length)
def WPost (ts:List Tk) (g:Nat) (vin:Value) (R:Res) (v:Value) (w:World) (e:Ending) (w':World):Prop :=
 match R with
 | .ok k o=>e=.returned (.bool (isAll ts k))∧∃ v',Kept g v w w' v'∧RSt g vin w' k v' o
 | .bad k=>e=.returned (.bool false)∧∃ v' o,Kept g v w w' v'∧RSt g vin w' k v' o
set_option maxHeartbeats 1000000 in
theorem whole_bad (ts:List Tk) (g k:Nat) (vin v:Value) (w:World) (H0:∀ w0,w0=w.drew→Calls Tryz.prog 175 #[.pointer (some ⟨g,0,none⟩)] w0 (RPost g vin (.bad k) v w)) :
 Calls Tryz.prog 135 #[.pointer (some ⟨g,0,none⟩)] w (WPost ts g vin (.bad k) v w):=by
 have H:=Lib.hid H0
 clear H0
 go_enter Tryz.func135,Tryz.ntmps135
 go_wp2_with fail
 refine wp_region_any (by kernel_rfl) ?_
 change wpAny _ _ _ _ _ _ _ (World.drew _)
 refine wpAny_take (i:=0) (v:=.pointer (some ⟨g,0,none⟩)) rfl (by kernel_rfl) (by kernel_rfl) (by kernel_rfl) (fun _ _ _ h=>h) (Or.inl ⟨by kernel_rfl,fun w=>by go_simp⟩) ?_
 simp only [Act.put,List.setIfInBounds_toArray,List.set_cons_zero,List.set_cons_succ,List.getElem_toArray,List.getElem_cons_zero]
 refine wpAny_ready (rs:=[1]) (by kernel_rfl) (by simp) ?_
 refine AllReady.cons rfl (fun K hK=>?_) AllReady.nil
 go_simp
 refine (H.out _ rfl).mono ?_
 rintro e w1 ⟨rfl,v1,o1,hk1,hs1⟩
 have HK:=Lib.hid hk1
 have HS:=Lib.hid hs1
 clear hk1 hs1
 go_simp
 refine hK _ _ ?_
 clear hK K
 refine wpAny_take (i:=2) (v:=.bool false) rfl (by kernel_rfl) (by kernel_rfl) (by kernel_rfl) (fun _ _ _ h=>h) (Or.inl ⟨by kernel_rfl,fun w=>by go_simp⟩) ?_
 simp only [Act.put,List.setIfInBounds_toArray,List.set_cons_zero,List.set_cons_succ,List.getElem_toArray,List.getElem_cons_zero,List.getElem_cons_succ]
 refine wpAny_take (i:=3) (v:=undef) rfl (by kernel_rfl) (by kernel_rfl) (by kernel_rfl) (fun _ _ _ h=>h) (Or.inr ⟨by kernel_rfl,rfl⟩) ?_
 simp only [Act.put,List.setIfInBounds_toArray,List.set_cons_zero,List.set_cons_succ,List.getElem_toArray,List.getElem_cons_zero,List.getElem_cons_succ]
 refine wpAny_take (i:=4) (v:=undef) rfl (by kernel_rfl) (by kernel_rfl) (by kernel_rfl) (fun _ _ _ h=>h) (Or.inr ⟨by kernel_rfl,rfl⟩) ?_
 simp only [Act.put,List.setIfInBounds_toArray,List.set_cons_zero,List.set_cons_succ,List.getElem_toArray,List.getElem_cons_zero,List.getElem_cons_succ]
 refine wpAny_take (i:=5) (v:=undef) rfl (by kernel_rfl) (by kernel_rfl) (by kernel_rfl) (fun _ _ _ h=>h) (Or.inr ⟨by kernel_rfl,rfl⟩) ?_
 simp only [Act.put,List.setIfInBounds_toArray,List.set_cons_zero,List.set_cons_succ,List.getElem_toArray,List.getElem_cons_zero,List.getElem_cons_succ]
 refine wpAny_take (i:=6) (v:=undef) rfl (by kernel_rfl) (by kernel_rfl) (by kernel_rfl) (fun _ _ _ h=>h) (Or.inr ⟨by kernel_rfl,rfl⟩) ?_
 simp only [Act.put,List.setIfInBounds_toArray,List.set_cons_zero,List.set_cons_succ,List.getElem_toArray,List.getElem_cons_zero,List.getElem_cons_succ]
 refine wpAny_take (i:=7) (v:=undef) rfl (by kernel_rfl) (by kernel_rfl) (by kernel_rfl) (fun _ _ _ h=>h) (Or.inr ⟨by kernel_rfl,rfl⟩) ?_
 simp only [Act.put,List.setIfInBounds_toArray,List.set_cons_zero,List.set_cons_succ,List.getElem_toArray,List.getElem_cons_zero,List.getElem_cons_succ]
 refine wpAny_take (i:=8) (v:=undef) rfl (by kernel_rfl) (by kernel_rfl) (by kernel_rfl) (fun _ _ _ h=>h) (Or.inr ⟨by kernel_rfl,rfl⟩) ?_
 simp only [Act.put,List.setIfInBounds_toArray,List.set_cons_zero,List.set_cons_succ,List.getElem_toArray,List.getElem_cons_zero,List.getElem_cons_succ]
 refine wpAny_take (i:=9) (v:=undef) rfl (by kernel_rfl) (by kernel_rfl) (by kernel_rfl) (fun _ _ _ h=>h) (Or.inr ⟨by kernel_rfl,rfl⟩) ?_
 simp only [Act.put,List.setIfInBounds_toArray,List.set_cons_zero,List.set_cons_succ,List.getElem_toArray,List.getElem_cons_zero,List.getElem_cons_succ]
 refine wpAny_take (i:=10) (v:=undef) rfl (by kernel_rfl) (by kernel_rfl) (by kernel_rfl) (fun _ _ _ h=>h) (Or.inr ⟨by kernel_rfl,rfl⟩) ?_
 simp only [Act.put,List.setIfInBounds_toArray,List.set_cons_zero,List.set_cons_succ,List.getElem_toArray,List.getElem_cons_zero,List.getElem_cons_succ]
 refine wpAny_take (i:=11) (v:=undef) rfl (by kernel_rfl) (by kernel_rfl) (by kernel_rfl) (fun _ _ _ h=>h) (Or.inr ⟨by kernel_rfl,rfl⟩) ?_
 simp only [Act.put,List.setIfInBounds_toArray,List.set_cons_zero,List.set_cons_succ,List.getElem_toArray,List.getElem_cons_zero,List.getElem_cons_succ]
 refine wpAny_take (i:=12) (v:=undef) rfl (by kernel_rfl) (by kernel_rfl) (by kernel_rfl) (fun _ _ _ h=>h) (Or.inr ⟨by kernel_rfl,rfl⟩) ?_
 simp only [Act.put,List.setIfInBounds_toArray,List.set_cons_zero,List.set_cons_succ,List.getElem_toArray,List.getElem_cons_zero,List.getElem_cons_succ]
 refine wpAny_take (i:=13) (v:=.bool false) rfl (by kernel_rfl) (by kernel_rfl) (by kernel_rfl) (fun _ _ _ h=>h) (Or.inl ⟨by kernel_rfl,fun w=>by go_simp⟩) ?_
 simp only [Act.put,List.setIfInBounds_toArray,List.set_cons_zero,List.set_cons_succ,List.getElem_toArray,List.getElem_cons_zero,List.getElem_cons_succ]
 refine wpAny_take (i:=14) (v:=.bool false) rfl (by kernel_rfl) (by kernel_rfl) (by kernel_rfl) (fun _ _ _ h=>h) (Or.inl ⟨by kernel_rfl,fun w=>by go_simp⟩) ?_
 simp only [Act.put,List.setIfInBounds_toArray,List.set_cons_zero,List.set_cons_succ,List.getElem_toArray,List.getElem_cons_zero,List.getElem_cons_succ]
 refine wpAny_done (by kernel_rfl) ?_ _
 go_wp2_with fail
 go_ret
 exact ⟨rfl,_,_,HK.out,HS.out⟩
set_option maxHeartbeats 2000000 in
theorem whole_ok (ts:List Tk) (g k cap:Nat) (A:Option Addr) (v:Value) (o:List Tk) (w:World) (hk:k≤ts.length) (hl:ts.length≤1000) (H0:∀ w0,w0=w.drew→Calls Tryz.prog 175 #[.pointer (some ⟨g,0,none⟩)] w0 (RPost g (.slice A ts.length cap) (.ok k o) v w)) :
 Calls Tryz.prog 135 #[.pointer (some ⟨g,0,none⟩)] w (WPost ts g (.slice A ts.length cap) (.ok k o) v w):=by
 have H:=Lib.hid H0
 have hb:(k == ts.length)=isAll ts k:=by unfold isAll; rw [Bool.eq_iff_iff]; simp
 have hb2:((k:Int) == (ts.length:Int))=isAll ts k:=by unfold isAll; rw [Bool.eq_iff_iff]; simp; omega
 have hb3:decide (k=ts.length)=isAll ts k:=rfl
 clear H0
 generalize hq:isAll ts k=q at *
 have HQ:=Lib.hid hq
 clear hq
 go_enter Tryz.func135,Tryz.ntmps135
 go_wp2_with fail
 first
  | (go_region_with (go_at_call 175; refine (H.out _ rfl).mono ?_; rintro e w1 ⟨rfl,v1,hk1,hs1⟩; have HK:=Lib.hid hk1; have HS:=Lib.hid hs1; obtain ⟨⟨c0,c1,c2⟩,_⟩:=hs1.blk.facts3; clear hk1 hs1))
  | fail
 all_goals
  go_wp2_with fail
  go_ret
  exact ⟨by rw [HQ.out]; rfl,_,HK.out,HS.out⟩
end Go.Proofs.YtmhkpjcdkjnlnaaGreatDoor
