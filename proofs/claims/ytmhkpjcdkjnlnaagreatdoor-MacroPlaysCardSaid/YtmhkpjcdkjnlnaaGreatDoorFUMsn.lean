/- What is entered is whole, plainly: below a state, and up to another one. No program in this text. -/
import Derived.Test.YtmhkpjcdkjnlnaaGreatDoorFUSpure
namespace Go.Proofs.YtmhkpjcdkjnlnaaGreatDoor
set_option linter.unusedVariables false

def hasS (A:Nat→Bool) (s:Int):Bool:=decide (0≤s) && A s.toNat
def Sub (S:List St) (y s:Int):Prop:=y=s ∨ cIn S y s=true
theorem hasS_add {A:Nat→Bool} {s y:Int} (hs:0≤s):hasS (addS A s) y=(hasS A y || decide (y=s)):=by
 unfold hasS addS
 by_cases h:0≤y
 · have e:((y.toNat:Nat):Int)=y:=by omega
   simp [h,e]
 · have:¬ y=s:=by omega
   simp [h,this]
theorem hasS_le {A B:Nat→Bool} (h:Le A B) {s:Int} (hs:hasS A s=true):hasS B s=true:=by
 unfold hasS at hs ⊢
 simp only [Bool.and_eq_true,decide_eq_true_eq] at hs ⊢
 exact ⟨hs.1,h _ hs.2⟩
theorem hasS_nat (A:Nat→Bool) (k:Nat):hasS A (k:Int)=A k:=by unfold hasS; simp
theorem cIn_tr {S:List St} {a b c:Int} (h:cIn S a b=true) (k:cIn S b c=true):cIn S a c=true:=cIn_trans a.toNat a b c (Nat.le_refl _) h k
theorem Sub.trans {S:List St} {a b c:Int} (h:Sub S a b) (k:Sub S b c):Sub S a c:=by
 rcases h with rfl | h
 · exact k
 · rcases k with rfl | k
   · exact .inr h
   · exact .inr (cIn_tr h k)
theorem Sub.in_ {S:List St} {a b c:Int} (h:Sub S a b) (k:cIn S b c=true):cIn S a c=true:=by
 rcases h with rfl | h
 · exact k
 · exact cIn_tr h k
theorem cIn_self {S:List St} {a:Int} (h:cIn S a a=true):False:=by have:=cIn_range h; omega
theorem child {S:List St} {s:Int}:∀ (n:Nat) (x:Int),x.toNat≤n→cIn S x s=true→∃ c,cUp S c=s∧isSt S c=true∧Sub S x c:=by
 intro n
 induction n with
 | zero=>intro x hn h; have:=cIn_range h; omega
 | succ n ih =>
  intro x hn h
  obtain ⟨h1,h2⟩:=(cIn_iff _ _ _).1 h
  obtain ⟨p1,p2,p3⟩:=cUp_pos h1
  rcases h2 with h2 | h2
  · exact ⟨x,h2,p1,.inl rfl⟩
  · obtain ⟨c,q1,q2,q3⟩:=ih (cUp S x) (by omega) h2
    refine ⟨c,q1,q2,.inr ?_⟩
    rcases q3 with q3 | q3
    · exact (cIn_iff _ _ _).2 ⟨h1,.inl q3⟩
    · exact (cIn_iff _ _ _).2 ⟨h1,.inr q3⟩
theorem child_of {S:List St} {s x:Int} (h:cIn S x s=true):∃ c,cUp S c=s∧isSt S c=true∧Sub S x c:=child x.toNat x (Nat.le_refl _) h
theorem line {S:List St} {a b:Int}:∀ (n:Nat) (x:Int),x.toNat≤n→cIn S x a=true→cIn S x b=true→a=b ∨ cIn S a b=true ∨ cIn S b a=true:=by
 intro n
 induction n with
 | zero=>intro x hn h; have:=cIn_range h; omega
 | succ n ih =>
  intro x hn h k
  obtain ⟨h1,h2⟩:=(cIn_iff _ _ _).1 h
  obtain ⟨_,k2⟩:=(cIn_iff _ _ _).1 k
  have:=(cUp_pos h1).2.2
  rcases h2 with h2 | h2
  · rcases k2 with k2 | k2
    · exact .inl (h2.symm.trans k2)
    · exact .inr (.inl (by rw [← h2]; exact k2))
  · rcases k2 with k2 | k2
    · exact .inr (.inr (by rw [← k2]; exact h2))
    · exact ih (cUp S x) (by omega) h2 k2
theorem up_in {S:List St} {c s:Int} (h:cUp S c=s) (hs:0≤s):cIn S c s=true:=(cIn_iff _ _ _).2 ⟨by omega,.inl h⟩
theorem one_child {S:List St} {s c d:Int} (hs:0≤s) (hc:cUp S c=s) (hd:cUp S d=s) (h:cIn S c d=true):False:=by
 obtain ⟨h1,h2⟩:=(cIn_iff _ _ _).1 h
 have hds:=up_in hd hs
 have:=cIn_range hds
 rcases h2 with h2 | h2
 · omega
 · rw [hc] at h2; have:=cIn_range h2; omega
theorem sub_one {S:List St} {s c d x:Int} (hs:0≤s) (hc:cUp S c=s) (hd:cUp S d=s) (h:Sub S x c) (k:Sub S x d):c=d:=by
 rcases h with rfl | h
 · rcases k with k | k
   · exact k
   · exact (one_child hs hc hd k).elim
 · rcases k with rfl | k
   · exact (one_child hs hd hc h).elim
   · rcases line x.toNat x (Nat.le_refl _) h k with h | h | h
     · exact h
     · exact (one_child hs hc hd h).elim
     · exact (one_child hs hd hc h).elim
def WAt (S:List St) (A:Nat→Bool) (s x:Int):Prop :=
 histB (stAt S x).kind=false∧(x ≠ s→hasS A (cUp S x)=true)∧((stAt S x).kind=2→∃ k,k ∈ kids S x∧hasS A k=true∧∀ k' ∈ kids S x,hasS A k'=true→k'=k)∧((stAt S x).kind=3→∀ k ∈ kids S x,hasS A k=true)
def WB (S:List St) (A:Nat→Bool) (s:Int):Prop:=hasS A s=true∧∀ x:Int,isSt S x=true→hasS A x=true→Sub S x s→WAt S A s x
theorem kid_sub {S:List St} (hT:Tame S) {x k:Int} (hx:isSt S x=true) (h:k ∈ kids S x):cIn S k x=true:=(hT.kid_up (isSt_iff.1 hx).1 h).2.2.2.2
theorem WB.congr {S:List St} (hT:Tame S) {A B:Nat→Bool} {s:Int} (h:WB S A s) (hAB:∀ y,Sub S y s→hasS B y=hasS A y):WB S B s:=by
 refine ⟨by rw [hAB s (.inl rfl)]; exact h.1,fun x hx hB hs=>?_⟩
 obtain ⟨h1,h2,h3,h4⟩:=h.2 x hx (by rw [← hAB x hs]; exact hB) hs
 have hk:∀ k ∈ kids S x,hasS B k=hasS A k:=fun k hk=>hAB k (.inr (by
  have:=kid_sub hT hx hk
  rcases hs with rfl | hs
  · exact this
  · exact cIn_tr this hs))
 refine ⟨h1,fun hne=>?_,fun h2'=>?_,fun h3' k hk'=>by rw [hk k hk']; exact h4 h3' k hk'⟩
 · rw [hAB]
   · exact h2 hne
   · rcases hs with rfl | hs
     · exact absurd rfl hne
     · rcases ((cIn_iff _ _ _).1 hs).2 with h | h
       · exact .inl h
       · exact .inr h
 · obtain ⟨k,q1,q2,q3⟩:=h3 h2'
   exact ⟨k,q1,by rw [hk k q1]; exact q2,fun k' hk' hB'=>q3 k' hk' (by rw [← hk k' hk']; exact hB')⟩
theorem WB.par {S:List St} (hT:Tame S) {A:Nat→Bool} {s:Int} (hs:isSt S s=true) (hk:(stAt S s).kind=3) (hA:hasS A s=true) (hw:∀ k ∈ kids S s,WB S A k)
 (hin:∀ y,isSt S y=true→cIn S y s=true→hasS A y=true→∃ k ∈ kids S s,Sub S y k):WB S A s:=by
 refine ⟨hA,fun x hx hxA hsub=>?_⟩
 rcases hsub with rfl | hsub
 · exact ⟨histB_23 (.inr hk),fun h=>absurd rfl h,fun h=>by omega,fun _ k hk'=>(hw k hk').1⟩
 · obtain ⟨k,hk',hsk⟩:=hin x hx hsub hxA
   obtain ⟨h1,h2,h3,h4⟩:=(hw k hk').2 x hx hxA hsk
   refine ⟨h1,fun _=>?_,h3,h4⟩
   by_cases hxk:x=k
   · rw [hxk,(hT.kid_up (isSt_iff.1 hs).1 hk').2.1]; exact hA
   · exact h2 hxk
theorem WB.comp {S:List St} (hT:Tame S) {A:Nat→Bool} {s q:Int} (hs:isSt S s=true) (hk:(stAt S s).kind=2) (hA:hasS A s=true) (hq:q ∈ kids S s) (hw:WB S A q)
 (hin:∀ y,isSt S y=true→cIn S y s=true→hasS A y=true→Sub S y q):WB S A s:=by
 have hs0:=(isSt_iff.1 hs).1
 have hqu:=(hT.kid_up hs0 hq).2.1
 refine ⟨hA,fun x hx hxA hsub=>?_⟩
 rcases hsub with rfl | hsub
 · refine ⟨histB_23 (.inl hk),fun h=>absurd rfl h,fun _=>⟨q,hq,hw.1,fun k' hk' hA'=>?_⟩,fun h=>by omega⟩
   obtain ⟨c1,c2,c3,c4,c5⟩:=hT.kid_up hs0 hk'
   exact sub_one hs0 c2 hqu (.inl rfl) (hin k' c1 c5 hA')
 · have hsk:=hin x hx hsub hxA
   obtain ⟨h1,h2,h3,h4⟩:=hw.2 x hx hxA hsk
   refine ⟨h1,fun _=>?_,h3,h4⟩
   by_cases hxk:x=q
   · rw [hxk,hqu]; exact hA
   · exact h2 hxk
theorem WB.leaf {S:List St} {A:Nat→Bool} {s:Int} (hs:isSt S s=true) (hh:histB (stAt S s).kind=false) (h2:(stAt S s).kind ≠ 2) (h3:(stAt S s).kind ≠ 3) (hA:hasS A s=true) (hin:∀ y,isSt S y=true→cIn S y s=true→hasS A y=false):WB S A s:=by
 refine ⟨hA,fun x hx hxA hsub=>?_⟩
 rcases hsub with rfl | hsub
 · exact ⟨hh,fun h=>absurd rfl h,fun h=>absurd h h2,fun h=>absurd h h3⟩
 · rw [hin x hx hsub] at hxA; cases hxA
theorem some_of {S:List St} {A:Nat→Bool} {k y:Int} (hy:isSt S y=true) (hA:hasS A y=true) (h:cIn S y k=true):someD S A k=true:=by
 obtain ⟨j,rfl,hj⟩:=isSt_nat' hy
 unfold someD
 rw [List.any_eq_true]
 exact ⟨j,List.mem_range.2 hj,by rw [hasS_nat] at hA; rw [hA,h]; rfl⟩
where
 isSt_nat' {S:List St} {s:Int} (h:isSt S s=true):∃ k:Nat,s=(k:Int)∧k < S.length:=by
  have:=isSt_iff.1 h
  exact ⟨s.toNat,by omega,by omega⟩
theorem some_not {S:List St} {A:Nat→Bool} {k:Int} (h:∀ y,isSt S y=true→cIn S y k=true→hasS A y=false):someD S A k=false:=by
 unfold someD
 rw [List.any_eq_false]
 intro x hx
 have hlt:=List.mem_range.1 hx
 intro hc
 simp only [Bool.and_eq_true] at hc
 have:=h (x:Int) (isSt_iff.2 ⟨by omega,by omega⟩) hc.2
 rw [hasS_nat,hc.1] at this
 cases this
theorem dB_leaf {S:List St} {H:List Nat} (f:Nat) {A:Nat→Bool} {s:Int} (hs:isSt S s=true) (hh:histB (stAt S s).kind=false) (h2:(stAt S s).kind ≠ 2) (h3:(stAt S s).kind ≠ 3):dB S H (f+1) A s=addS A s:=by
 rw [dB,if_neg (by rw [hs]; simp),if_neg (by rw [hh]; simp),if_neg h2,if_neg h3]
theorem add_same {A:Nat→Bool} {s:Int} (h:hasS A s=true):addS A s=A:=add_id fun k hk=>by rw [← hasS_nat A k,hk]; exact h
theorem step_id {S:List St} (hT:Tame S) {H:List Nat} {f:Nat} {A:Nat→Bool} {k:Int} (hs:isSt S k=true) (h:WB S A k):kidStep (someD S) (dB S H (f+1)) A k=A:=by
 obtain ⟨h1,_,h3,h4⟩:=h.2 k hs h.1 (.inl rfl)
 unfold kidStep
 split
 · rfl
 · rename_i hn
   by_cases h23:(stAt S k).kind=2 ∨ (stAt S k).kind=3
   · exfalso
     refine hn ?_
     have hex:∃ q,q ∈ kids S k∧hasS A q=true:=by
      rcases h23 with h2 | h3'
      · obtain ⟨q,q1,q2,_⟩:=h3 h2
        exact ⟨q,q1,q2⟩
      · obtain ⟨q,hq⟩:=List.exists_mem_of_ne_nil _ (hT.kid k hs (.inr h3'))
        exact ⟨q,hq,h4 h3' q hq⟩
     obtain ⟨q,q1,q2⟩:=hex
     obtain ⟨c1,c2,c3,c4,c5⟩:=hT.kid_up (isSt_iff.1 hs).1 q1
     exact some_of c1 q2 c5
   · rw [dB_leaf f hs h1 (fun h=>h23 (.inl h)) (fun h=>h23 (.inr h))]
     exact add_same h.1
def Fr (y:Nat) (G:(Nat→Bool)→(Nat→Bool)):Prop:=∀ A,G A y=A y
theorem fr_add {y:Nat} {s:Int} (h:¬ (y:Int)=s):Fr y (fun A=>addS A s):=fun A=>by simp [addS,h]
theorem fr_comp {y:Nat} {g h:(Nat→Bool)→(Nat→Bool)} (hg:Fr y g) (hh:Fr y h):Fr y (fun A=>h (g A)):=fun A=>(hh (g A)).trans (hg A)
theorem fr_fold {y:Nat} {α:Type} (G:(Nat→Bool)→α→(Nat→Bool)):∀ (L:List α),(∀ x ∈ L,Fr y fun A=>G A x)→Fr y fun A=>L.foldl G A
 | [],_=>fun _=>rfl
 | x :: L,h=>fr_comp (h x (List.mem_cons_self ..)) (fr_fold G L fun z hz=>h z (List.mem_cons_of_mem _ hz))
section
variable {S:List St} {F:(Nat→Bool)→Int→(Nat→Bool)} {y:Nat}
theorem fr_kids (p:Int) (h:∀ k ∈ kids S p,Fr y fun A=>F A k):Fr y fun A=>kidsW S (someD S) F p A:=fr_fold _ _ fun k hk A=>by
 show kidStep (someD S) F A k y=A y
 unfold kidStep
 split
 · rfl
 · exact h k hk A
theorem fr_up (top:Int):∀ L:List Int,(∀ p ∈ L.takeWhile (fun x=>decide (x ≠ top)),¬ (y:Int)=p∧∀ k ∈ kids S p,Fr y fun A=>F A k)→Fr y fun A=>upW S (someD S) addS F top L A
 | [],_=>fun _=>rfl
 | p :: L,h=>fun A=>by
  show upW S (someD S) addS F top (p :: L) A y=A y
  rw [upW]
  by_cases he:p=top
  · rw [if_pos he]
  · rw [if_neg he]
    rw [List.takeWhile_cons,if_pos (by simpa using he)] at h
    obtain ⟨h1,h2⟩:=h p (List.mem_cons_self ..)
    have hr:=fr_up top L (fun q hq=>h q (List.mem_cons_of_mem _ hq)) (upStep S (someD S) addS F A p)
    refine hr.trans ?_
    unfold upStep
    split
    · exact (fr_kids p h2 (addS A p)).trans (fr_add h1 A)
    · exact fr_add h1 A
end
theorem all_one {S:List St} {F:(Nat→Bool)→Int→(Nat→Bool)} (t top:Int) (A:Nat→Bool):allW S (someD S) addS F [t] top A=upW S (someD S) addS F top (ups S t) (F A t):=rfl
theorem dB_frame {S:List St} (hT:Tame S) {H:List Nat} {y:Nat}:∀ (f:Nat) (s:Int),isSt S s=true→histB (stAt S s).kind=false→¬ Sub S (y:Int) s→Fr y fun A=>dB S H f A s
 | 0,_,_,_,_=>fun _=>rfl
 | f+1,s,hs,hh,hy=>fun A=>by
  show dB S H (f+1) A s y=A y
  have hys:¬ (y:Int)=s:=fun h=>hy (.inl h)
  have hkids:∀ p,isSt S p=true→Sub S p s→∀ k ∈ kids S p,Fr y fun A=>dB S H f A k:=fun p hp hsub k hk=>by
   obtain ⟨c1,c2,c3,c4,c5⟩:=hT.kid_up (isSt_iff.1 hp).1 hk
   refine dB_frame hT f k c1 c3 fun h=>hy ?_
   exact h.trans (Sub.trans (.inr c5) hsub)
  rw [dB,if_neg (by rw [hs]; simp),if_neg (by rw [hh]; simp)]
  split
  · rename_i h2
    obtain ⟨t,h1,t1,t2,t3⟩:=hT.ini2 s hs h2
    rw [h1,all_one]
    have hu:=fr_up (S:=S) (F:=dB S H f) (y:=y) s (ups S t) (fun p hp=>by
     have hps:=ups_ahead t3 p hp
     obtain ⟨p1,p2,p3⟩:=up_state hT (List.takeWhile_subset _ hp)
     exact ⟨fun h=>hy (by rw [h]; exact .inr hps),hkids p p1 (.inr hps)⟩) (dB S H f (addS A s) t)
    refine hu.trans ?_
    exact (dB_frame hT f t t1 t2 (fun h=>hy (h.trans (.inr t3))) (addS A s)).trans (fr_add hys A)
  · split
    · exact (fr_kids s (hkids s hs (.inl rfl)) (addS A s)).trans (fr_add hys A)
    · exact fr_add hys A
theorem fr_has {y:Int} {G:(Nat→Bool)→(Nat→Bool)} (h:0≤y→Fr y.toNat G) (A:Nat→Bool):hasS (G A) y=hasS A y:=by
 unfold hasS
 by_cases hy:0≤y
 · rw [h hy A]
 · simp [hy]
structure FGood (S:List St) (F:(Nat→Bool)→Int→(Nat→Bool)) (c:Int):Prop where
 whole:∀ k,isSt S k=true→histB (stAt S k).kind=false→cIn S k c=true→∀ A,(∀ y,isSt S y=true→Sub S y k→hasS A y=false)→WB S (F A k) k
 frame:∀ k,isSt S k=true→histB (stAt S k).kind=false→cIn S k c=true→∀ y:Int,¬ Sub S y k→∀ A,hasS (F A k) y=hasS A y
 same:∀ k,isSt S k=true→histB (stAt S k).kind=false→cIn S k c=true→∀ A,WB S A k→kidStep (someD S) F A k=A
theorem kids_loop {S:List St} (hT:Tame S) {F:(Nat→Bool)→Int→(Nat→Bool)} {c p:Int} (hF:FGood S F c) (hp:isSt S p=true) (hpc:Sub S p c):∀ (L:List Int),(∀ k ∈ L,k ∈ kids S p)→∀ A,(∀ k ∈ L,WB S A k ∨ ∀ y,isSt S y=true→Sub S y k→hasS A y=false) →
 (∀ k ∈ L,WB S (L.foldl (kidStep (someD S) F) A) k)∧∀ y:Int,(∀ k ∈ L,¬ Sub S y k)→hasS (L.foldl (kidStep (someD S) F) A) y=hasS A y
 | [],_,A,_=>⟨fun k hk=>(by cases hk),fun _ _=>rfl⟩
 | k :: L,hL,A,hA=>by
  have hp0:=(isSt_iff.1 hp).1
  obtain ⟨c1,c2,c3,c4,c5⟩:=hT.kid_up hp0 (hL k (List.mem_cons_self ..))
  have hkc:cIn S k c=true:=by
   rcases hpc with rfl | hpc
   · exact c5
   · exact cIn_tr c5 hpc
  have hA1:WB S (kidStep (someD S) F A k) k∧∀ y:Int,¬ Sub S y k→hasS (kidStep (someD S) F A k) y=hasS A y:=by
   rcases hA k (List.mem_cons_self ..) with h | h
   · rw [hF.same k c1 c3 hkc A h]; exact ⟨h,fun _ _=>rfl⟩
   · have hn:=some_not (S:=S) (A:=A) (k:=k) fun y hy hin=>h y hy (.inr hin)
     have he:kidStep (someD S) F A k=F A k:=by unfold kidStep; rw [if_neg (by rw [hn]; simp)]
     rw [he]
     exact ⟨hF.whole k c1 c3 hkc A h,fun y hy=>hF.frame k c1 c3 hkc y hy A⟩
  have hother:∀ k' ∈ L,k' ≠ k→∀ y,Sub S y k'→¬ Sub S y k:=fun k' hk' hne y h1 h2 =>
   hne (sub_one hp0 (hT.kid_up hp0 (hL k' (List.mem_cons_of_mem _ hk'))).2.1 c2 h1 h2)
  obtain ⟨r1,r2⟩:=kids_loop hT hF hp hpc L (fun x hx=>hL x (List.mem_cons_of_mem _ hx)) (kidStep (someD S) F A k) (fun k' hk'=>by
   by_cases hkk:k'=k
   · left; rw [hkk]; exact hA1.1
   · rcases hA k' (List.mem_cons_of_mem _ hk') with h | h
     · left; exact h.congr hT fun y hy=>hA1.2 y (hother k' hk' hkk y hy)
     · right; intro y hy hs; rw [hA1.2 y (hother k' hk' hkk y hs)]; exact h y hy hs)
  rw [List.foldl_cons]
  refine ⟨fun k' hk'=>?_,fun y hy=>?_⟩
  · rcases List.mem_cons.1 hk' with rfl | hk'
    · by_cases hin:k' ∈ L
      · exact r1 k' hin
      · exact hA1.1.congr hT fun y hy=>r2 y fun k2 hk2 h2=>hother k2 hk2 (fun e=>hin (by rw [← e]; exact hk2)) y h2 hy
    · exact r1 k' hk'
  · rw [r2 y fun k2 hk2=>hy k2 (List.mem_cons_of_mem _ hk2)]
    exact hA1.2 y (hy k (List.mem_cons_self ..))
theorem climb {S:List St} (hT:Tame S) {F:(Nat→Bool)→Int→(Nat→Bool)} {c:Int} (hc:isSt S c=true) (hF:FGood S F c):∀ (n:Nat) (p q:Int),(p+1).toNat≤n→cUp S q=p→(p=c ∨ cIn S p c=true)→isSt S q=true→histB (stAt S q).kind=false →
 ∀ A,WB S A q→(∀ y,isSt S y=true→cIn S y c=true→hasS A y=true→Sub S y q) →
 ∃ q',q' ∈ kids S c∧WB S (upW S (someD S) addS F c (upsF S n p) A) q'∧∀ y,isSt S y=true→cIn S y c=true→hasS (upW S (someD S) addS F c (upsF S n p) A) y=true→Sub S y q'
 | 0,p,q,hn,hu,hpc,hq,hh,A,hw,hin=>by
  have hc0:=(isSt_iff.1 hc).1
  rcases hpc with rfl | h
  · omega
  · have:=cIn_range h; omega
 | n+1,p,q,hn,hu,hpc,hq,hh,A,hw,hin=>by
  have hc0:=(isSt_iff.1 hc).1
  have hp0:0≤p:=by rcases hpc with rfl | h; exact hc0; have:=cIn_range h; omega
  rw [upsF,if_neg (by omega),upW]
  by_cases he:p=c
  · rw [if_pos he]
    exact ⟨q,hT.mem_kids (by rw [hu,he]) hc0 hh,hw,hin⟩
  · rw [if_neg he]
    have hpin:cIn S p c=true:=by rcases hpc with h | h; exact absurd h he; exact h
    have hqp:=up_in hu hp0
    have hp:isSt S p=true:=by
     have:=cIn_range hpin
     exact this.2.2
    have hqk:q ∈ kids S p:=hT.mem_kids hu hp0 hh
    have hqc:=cIn_tr hqp hpin
    have hpq:∀ y,Sub S y q→y ≠ p:=fun y hy hyp=>by
     rw [hyp] at hy
     rcases hy with h | h
     · rw [h] at hqp; exact cIn_self hqp
     · exact cIn_self (cIn_tr h hqp)
    have hw1:WB S (addS A p) q:=hw.congr hT fun y hy=>by rw [hasS_add hp0]; simp [hpq y hy]
    have hk23:(stAt S p).kind=2 ∨ (stAt S p).kind=3:=by have:=hT.kpar q (by omega); rwa [hu] at this
    have hhp:=histB_23 hk23
    have hadd:∀ y,isSt S y=true→cIn S y c=true→hasS (addS A p) y=true→y=p ∨ Sub S y q:=fun y hy hyc hA=>by
     rw [hasS_add hp0] at hA
     simp only [Bool.or_eq_true,decide_eq_true_eq] at hA
     rcases hA with hA | hA
     · exact .inr (hin y hy hyc hA)
     · exact .inl hA
    have hself:hasS (addS A p) p=true:=by rw [hasS_add hp0]; simp
    obtain ⟨hA2,hin2⟩:WB S (upStep S (someD S) addS F A p) p∧∀ y,isSt S y=true→cIn S y c=true→hasS (upStep S (someD S) addS F A p) y=true→Sub S y p:=by
     unfold upStep
     by_cases h3:(stAt S p).kind=3
     · rw [if_pos h3]
       have hpre:∀ k ∈ kids S p,WB S (addS A p) k ∨ ∀ y,isSt S y=true→Sub S y k→hasS (addS A p) y=false:=fun k hk=>by
        by_cases hkq:k=q
        · left; rw [hkq]; exact hw1
        · right
          intro y hy hs
          have hkp:=(hT.kid_up hp0 hk).2.2.2.2
          have hyc:cIn S y c=true:=hs.in_ (cIn_tr hkp hpin)
          cases hA:hasS (addS A p) y with
          | false=>rfl
          | true =>
           exfalso
           rcases hadd y hy hyc hA with h | h
           · rw [h] at hs
             rcases hs with hs | hs
             · rw [← hs] at hkp; exact cIn_self hkp
             · exact cIn_self (cIn_tr hs hkp)
           · exact hkq (sub_one hp0 (hT.kid_up hp0 hk).2.1 hu hs h)
       obtain ⟨r1,r2⟩:=kids_loop hT hF hp (.inr hpin) (kids S p) (fun _ h=>h) (addS A p) hpre
       have hout:∀ y,isSt S y=true→cIn S y c=true→hasS (kidsW S (someD S) F p (addS A p)) y=true→y=p ∨ ∃ k ∈ kids S p,Sub S y k:=fun y hy hyc hA=>by
        by_cases hex:∃ k ∈ kids S p,Sub S y k
        · exact .inr hex
        · have:=r2 y fun k hk hs=>hex ⟨k,hk,hs⟩
          have hA':hasS (addS A p) y=true:=by rw [← this]; exact hA
          rcases hadd y hy hyc hA' with h | h
          · exact .inl h
          · exact .inr ⟨q,hqk,h⟩
       refine ⟨WB.par hT hp h3 ?_ r1 fun y hy hyp hA=>?_,fun y hy hyc hA=>?_⟩
       · have:=r2 p fun k hk hs=>by
          have hkp:=(hT.kid_up hp0 hk).2.2.2.2
          rcases hs with hs | hs
          · rw [← hs] at hkp; exact cIn_self hkp
          · exact cIn_self (cIn_tr hs hkp)
         show hasS ((kids S p).foldl _ (addS A p)) p=true
         rw [this]; exact hself
       · rcases hout y hy (cIn_tr hyp hpin) hA with h | h
         · rw [h] at hyp; exact (cIn_self hyp).elim
         · exact h
       · rcases hout y hy hyc hA with h | ⟨k,hk,hs⟩
         · exact .inl h
         · exact .inr (hs.in_ (hT.kid_up hp0 hk).2.2.2.2)
     · rw [if_neg h3]
       have h2:(stAt S p).kind=2:=by rcases hk23 with h | h; exact h; exact absurd h h3
       refine ⟨WB.comp hT hp h2 hself hqk hw1 fun y hy hyp hA=>?_,fun y hy hyc hA=>?_⟩
       · rcases hadd y hy (cIn_tr hyp hpin) hA with h | h
         · rw [h] at hyp; exact (cIn_self hyp).elim
         · exact h
       · rcases hadd y hy hyc hA with h | h
         · exact .inl h
         · exact .inr (h.in_ hqp)
    have hst:=cUp_step S p hp0
    exact climb hT hc hF n (cUp S p) p (by omega) rfl ((cIn_iff _ _ _).1 hpin |>.2) hp hhp _ hA2 hin2
theorem fgood_dB {S:List St} (hT:Tame S) {H:List Nat}:∀ (f:Nat) (c:Int),isSt S c=true→histB (stAt S c).kind=false→rk S c≤f→FGood S (dB S H f) c
 | 0,c,hc,hh,hr=>by rw [rk_plain hh] at hr; have:=isSt_iff.1 hc; omega
 | f+1,c,hc,hh,hr=>by
  refine ⟨fun s hs hhs hsc A hA=>?_,fun s hs hhs hsc y hy A=>?_,fun s hs hhs hsc A hw=>step_id hT hs hw⟩
  · have hrs:=rk_in hh hhs hsc
    have hF:=fgood_dB hT (H:=H) f s hs hhs (by omega)
    have hs0:=(isSt_iff.1 hs).1
    have hself:hasS (addS A s) s=true:=by rw [hasS_add hs0]; simp
    have hbelow:∀ y,isSt S y=true→cIn S y s=true→hasS (addS A s) y=false:=fun y hy hin=>by
     rw [hasS_add hs0,hA y hy (.inr hin)]
     have:¬ y=s:=fun h=>by rw [h] at hin; exact cIn_self hin
     simp [this]
    rw [dB,if_neg (by rw [hs]; simp),if_neg (by rw [hhs]; simp)]
    by_cases h2:(stAt S s).kind=2
    · rw [if_pos h2]
      obtain ⟨t,h1,t1,t2,t3⟩:=hT.ini2 s hs h2
      rw [h1,all_one]
      have hwt:=hF.whole t t1 t2 t3 (addS A s) fun y hy hsub=>hbelow y hy (hsub.in_ t3)
      have hint:∀ y,isSt S y=true→cIn S y s=true→hasS (dB S H f (addS A s) t) y=true→Sub S y t:=fun y hy hin hA2=>by
       by_cases hsub:Sub S y t
       · exact hsub
       · rw [hF.frame t t1 t2 t3 y hsub,hbelow y hy hin] at hA2; cases hA2
      obtain ⟨q,q1,q2,q3⟩:=climb hT hs hF (t.toNat+1) (cUp S t) t (by rcases cUp_le S t with h | h <;> omega) rfl ((cIn_iff _ _ _).1 t3).2 t1 t2 _ hwt hint
      refine WB.comp hT hs h2 ?_ q1 q2 q3
      exact hasS_le ((abs_up (abs_dB S H f) s (ups S t)).1 _) (hasS_le ((abs_dB S H f t).1 _) hself)
    · rw [if_neg h2]
      by_cases h3:(stAt S s).kind=3
      · rw [if_pos h3]
        obtain ⟨r1,r2⟩:=kids_loop hT hF hs (.inl rfl) (kids S s) (fun _ h=>h) (addS A s) fun k hk=>.inr fun y hy hsub=>hbelow y hy (hsub.in_ (hT.kid_up hs0 hk).2.2.2.2)
        refine WB.par hT hs h3 ?_ r1 fun y hy hin hA2=>?_
        · exact hasS_le ((abs_kids (abs_dB S H f) s).1 _) hself
        · by_cases hex:∃ k ∈ kids S s,Sub S y k
          · exact hex
          · have:=r2 y fun k hk hsub=>hex ⟨k,hk,hsub⟩
            have hA2:hasS ((kids S s).foldl (kidStep (someD S) (dB S H f)) (addS A s)) y=true:=hA2
            rw [this,hbelow y hy hin] at hA2; cases hA2
      · rw [if_neg h3]
        exact WB.leaf hs hhs h2 h3 hself hbelow
  · exact fr_has (G:=fun A=>dB S H (f+1) A s) (fun hy0=>dB_frame hT (f+1) s hs hhs (by rwa [show ((y.toNat:Nat):Int)=y by omega])) A
theorem whole_one {S:List St} (hT:Tame S) (H:List Nat) (s:Int) (hs:isSt S s=true) (hh:histB (stAt S s).kind=false) (hpos:0 < s) :
 WB S (addS (dSet S H 0 [s]) 0) 0∧hasS (dSet S H 0 [s]) s=true∧hasS (dSet S H 0 [s]) 0=false:=by
 have h0:isSt S 0=true:=isSt_iff.2 ⟨by omega,by have:=hT.pos; omega⟩
 have hh0:histB (stAt S 0).kind=false:=histB_23 (.inl hT.first)
 have hin0:=hT.all s hs hpos
 have hF:=fgood_dB hT (H:=H) (S.length+2) 0 h0 hh0 (by have:=rk_le h0 hh0; omega)
 have hreal:realS S H [s]=[s]:=by
  unfold realS
  rw [List.foldl_cons,List.foldl_nil]
  unfold ofS
  rw [if_neg (by rw [hs]; simp),if_pos hh]
  rfl
 have hD:dSet S H 0 [s]=upW S (someD S) addS (dB S H (S.length+2)) 0 (ups S s) (dB S H (S.length+2) (fun _=>false) s):=by
  unfold dSet
  rw [hreal]
  rfl
 rw [hD]
 have hemp:∀ y,hasS (fun _=>false) y=false:=fun y=>by simp [hasS]
 have hwt:=hF.whole s hs hh hin0 (fun _=>false) fun y _ _=>hemp y
 have hself:=hwt.1
 have hint:∀ y,isSt S y=true→cIn S y 0=true→hasS (dB S H (S.length+2) (fun _=>false) s) y=true→Sub S y s:=fun y hy _ hA=>by
  by_cases hsub:Sub S y s
  · exact hsub
  · rw [hF.frame s hs hh hin0 y hsub,hemp] at hA; cases hA
 obtain ⟨q,q1,q2,q3⟩:=climb hT h0 hF (s.toNat+1) (cUp S s) s (by rcases cUp_le S s with h | h <;> omega) rfl ((cIn_iff _ _ _).1 hin0).2 hs hh _ hwt hint
 have hno0:hasS (upW S (someD S) addS (dB S H (S.length+2)) 0 (ups S s) (dB S H (S.length+2) (fun _=>false) s)) 0=false:=by
  have hf:=fr_up (S:=S) (F:=dB S H (S.length+2)) (y:=0) 0 (ups S s) (fun p hp=>by
   have hps:=ups_ahead hin0 p hp
   obtain ⟨p1,p2,p3⟩:=up_state hT (List.takeWhile_subset _ hp)
   refine ⟨fun h=>by rw [← h] at hps; exact cIn_self hps,fun k hk=>?_⟩
   obtain ⟨c1,c2,c3,c4,c5⟩:=hT.kid_up (isSt_iff.1 p1).1 hk
   exact dB_frame hT _ k c1 c3 fun hsub=>by
    rcases hsub with h | h
    · have:=cIn_range c5; omega
    · have:=cIn_range h; omega) (dB S H (S.length+2) (fun _=>false) s)
  have hf2:=dB_frame hT (H:=H) (y:=0) (S.length+2) s hs hh (fun hsub=>by
   rcases hsub with h | h
   · omega
   · have:=cIn_range h; omega) (fun _=>false)
  have:hasS (upW S (someD S) addS (dB S H (S.length+2)) 0 (ups S s) (dB S H (S.length+2) (fun _=>false) s)) ((0:Nat):Int)=false:=by
   rw [hasS_nat]
   exact hf.trans hf2
  exact this
 refine ⟨?_,hasS_le ((abs_up (abs_dB S H _) 0 (ups S s)).1 _) hself,hno0⟩
 refine WB.comp hT h0 hT.first (by rw [hasS_add (by omega)]; simp) q1 ?_ fun y hy hin hA=>?_
 · refine q2.congr hT fun y hy=>?_
   rw [hasS_add (by omega)]
   have hyc:cIn S y 0=true:=hy.in_ (kid_sub hT h0 q1)
   have:¬ y=0:=fun h=>by rw [h] at hyc; exact cIn_self hyc
   simp [this]
   rfl
 · rw [hasS_add (by omega)] at hA
   have:¬ y=0:=fun h=>by rw [h] at hin; exact cIn_self hin
   simp [this] at hA
   exact q3 y hy hin hA

theorem cmp {S:List St} {z a b:Int} (h:Sub S z a) (k:Sub S z b):a=b ∨ cIn S a b=true ∨ cIn S b a=true:=by
 rcases h with rfl | h
 · rcases k with rfl | k
   · exact .inl rfl
   · exact .inr (.inl k)
 · rcases k with rfl | k
   · exact .inr (.inr h)
   · exact line _ z (Nat.le_refl _) h k
theorem sub_anti {S:List St} {a b:Int} (h:Sub S a b) (k:Sub S b a):a=b:=by
 rcases h with rfl | h
 · rfl
 · rcases k with rfl | k
   · rfl
   · exact (cIn_self (cIn_tr h k)).elim
theorem sub_irr {S:List St} {a b:Int} (h:Sub S a b) (k:cIn S b a=true):False:=cIn_self (h.in_ k)
theorem up_sub {S:List St} {z c:Int} (h:cIn S z c=true):Sub S (cUp S z) c:=((cIn_iff _ _ _).1 h).2
theorem in_own {S:List St} {z c:Int} (h:cIn S z c=true):cIn S z (cUp S z)=true:=(cIn_iff _ _ _).2 ⟨((cIn_iff _ _ _).1 h).1,.inl rfl⟩
theorem hasS_st {A:Nat→Bool} {z:Int} (h:hasS A z=true):0≤z:=by
 unfold hasS at h
 simp only [Bool.and_eq_true,decide_eq_true_eq] at h
 exact h.1
theorem hist_no {S:List St} (hT:Tame S) {x p:Int} (h:cIn S x p=true):histB (stAt S p).kind=false:=by
 obtain ⟨c,hc,_,_⟩:=child_of h
 have:=hT.kpar c (by rw [hc]; exact (cIn_range h).1)
 rw [hc] at this
 exact histB_23 this
theorem kind_in {S:List St} (hT:Tame S) {x p:Int} (h:cIn S x p=true):(stAt S p).kind=2 ∨ (stAt S p).kind=3:=by
 obtain ⟨c,hc,_,_⟩:=child_of h
 have:=hT.kpar c (by rw [hc]; exact (cIn_range h).1)
 rwa [hc] at this
theorem kid_of {S:List St} (hT:Tame S) {x p:Int} (h:cIn S x p=true) (hh:histB (stAt S x).kind=false):∃ q ∈ kids S p,Sub S x q:=by
 obtain ⟨q,h1,h2,h3⟩:=child_of h
 refine ⟨q,hT.mem_kids h1 (cIn_range h).1 ?_,h3⟩
 rcases h3 with rfl | h3
 · exact hh
 · exact hist_no hT h3

section
variable (S:List St) (X:List Int) (r:Int)
def Kn (y:Int):Prop:=cIn S y r=true∧∃ x ∈ X,Sub S x y
def Bk (A:Nat→Bool) (y:Int):Prop:=hasS A y=true ∨ Kn S X r y
structure CX:Prop where
 st:∀ x ∈ X,histB (stAt S x).kind=false∧cIn S x r=true
 apart:∀ x ∈ X,∀ y ∈ X,¬ cIn S x y=true
 one:∀ c,(stAt S c).kind=2→Sub S c r→∀ x ∈ X,∀ y ∈ X,cIn S x c=true→cIn S y c=true→∀ q ∈ kids S c,Sub S x q→Sub S y q
structure IV (e:Int) (A:Nat→Bool):Prop where
 in_:∀ z,hasS A z=true→cIn S z r=true
 src:∀ z,hasS A z=true→Kn S X r z ∨ (∃ x ∈ X,hasS A x=true∧Sub S z x) ∨ ∃ k,Sub S z k∧(∀ y,Kn S X r y→¬ Sub S y k)∧hasS A (cUp S k)=true∧Kn S X r (cUp S k)
 hi:∀ z,hasS A z=true→histB (stAt S z).kind=false
 up:∀ z,hasS A z=true→cUp S z ≠ r→Bk S X r A (cUp S z)
 one:∀ z,hasS A z=true→(stAt S z).kind=2→∃ q ∈ kids S z,Bk S X r A q∧∀ y,Bk S X r A y→cIn S y z=true→Sub S y q
 all:∀ z,hasS A z=true→z ≠ e→(stAt S z).kind=3→∀ k ∈ kids S z,Bk S X r A k
end
section
variable {S:List St} {X:List Int} {r:Int}
theorem Kn.up {y:Int} (h:Kn S X r y) (hne:cUp S y ≠ r):Kn S X r (cUp S y):=by
 obtain ⟨h1,x,hx,hs⟩:=h
 exact ⟨((cIn_iff _ _ _).1 h1).2.resolve_left hne,x,hx,hs.trans (.inr (in_own h1))⟩
theorem Kn.sub {y k:Int} (h:Kn S X r y) (hk:Sub S y k) (hr:cIn S k r=true):Kn S X r k:=by
 obtain ⟨_,x,hx,hs⟩:=h
 exact ⟨hr,x,hx,hs.trans hk⟩
theorem IV.empty:IV S X r (-1) (fun _=>false):=by
 have h:∀ z,¬ hasS (fun _=>false) z=true:=fun z hz=>by simp [hasS] at hz
 exact ⟨fun z hz=>(h z hz).elim,fun z hz=>(h z hz).elim,fun z hz=>(h z hz).elim,fun z hz=>(h z hz).elim,fun z hz=>(h z hz).elim,fun z hz=>(h z hz).elim⟩
theorem IV.put (hT:Tame S) {F:(Nat→Bool)→Int→(Nat→Bool)} (hF:FGood S F r) {e k:Int} {A:Nat→Bool} (h:IV S X r e A) (hk:isSt S k=true) (hh:histB (stAt S k).kind=false) (hkr:cIn S k r=true)
 (hno:∀ y,isSt S y=true→Sub S y k→hasS A y=false) (hroot:∀ x ∈ X,¬ cIn S x k=true) (hup:cUp S k ≠ r→Bk S X r A (cUp S k)) (hcon:Kn S X r k ∨ (hasS A (cUp S k)=true∧(stAt S (cUp S k)).kind=3))
 (hj:k ∈ X ∨ ((∀ y,Kn S X r y→¬ Sub S y k)∧hasS A (cUp S k)=true∧Kn S X r (cUp S k))) :
 IV S X r e (F A k)∧hasS (F A k) k=true∧(∀ y,¬ Sub S y k→hasS (F A k) y=hasS A y)∧∀ y,hasS A y=true→hasS (F A k) y=true:=by
 have hw:=hF.whole k hk hh hkr A hno
 have hfr:=fun y hy=>hF.frame k hk hh hkr y hy A
 generalize F A k=A' at *
 have mono:∀ y,hasS A y=true→hasS A' y=true:=fun y hy=>by
  by_cases hs:Sub S y k
  · have:=hno y (cIn_range (h.in_ y hy)).2.2 hs
    rw [this] at hy
    cases hy
  · rw [hfr y hs]; exact hy
 have new:∀ y,hasS A' y=true→Sub S y k ∨ (¬ Sub S y k∧hasS A y=true):=fun y hy=>by
  by_cases hs:Sub S y k
  · exact .inl hs
  · exact .inr ⟨hs,by rw [← hfr y hs]; exact hy⟩
 have bm:∀ y,Bk S X r A y→Bk S X r A' y:=fun y hy=>hy.imp (mono y) id
 have st:∀ y,Sub S y k→isSt S y=true:=fun y hy=>by
  rcases hy with rfl | hy
  · exact hk
  · exact (cIn_range hy).2.2
 have upin:∀ y,hasS A' y=true→cIn S y k=true→hasS A' (cUp S y)=true:=fun y hy hin=>(hw.2 y (cIn_range hin).2.2 hy (.inr hin)).2.1 (fun he=>by rw [he] at hin; exact cIn_self hin)
 have climb:∀ (n:Nat) (y c:Int),y.toNat≤n→hasS A' y=true→Sub S c k→cIn S y c=true→hasS A' c=true:=by
  intro n
  induction n with
  | zero=>intro y c hn _ _ hc; have:=cIn_range hc; omega
  | succ n ih =>
   intro y c hn hy hck hc
   have h1:=upin y hy (by rcases hck with rfl | hck; exact hc; exact cIn_tr hc hck)
   have:=(cUp_pos ((cIn_iff _ _ _).1 hc).1).2.2
   rcases up_sub hc with h2 | h2
   · rw [← h2]; exact h1
   · exact ih (cUp S y) c (by omega) h1 hck h2
 refine ⟨⟨fun z hz=>?_,fun z hz=>?_,fun z hz=>?_,fun z hz hne=>?_,fun z hz h2=>?_,fun z hz hze h3=>?_⟩,hw.1,hfr,mono⟩
 · rcases new z hz with hs | hs
   · exact hs.in_ hkr
   · exact h.in_ z hs.2
 · rcases new z hz with hs | hs
   · right
     rcases hj with hj | ⟨j1,j2,j3⟩
     · exact .inl ⟨k,hj,hw.1,hs⟩
     · exact .inr ⟨k,hs,j1,mono _ j2,j3⟩
   · rcases h.src z hs.2 with h1 | ⟨x,hx,h1,h2⟩ | ⟨k',h1,h2,h3,h4⟩
     · exact .inl h1
     · exact .inr (.inl ⟨x,hx,mono _ h1,h2⟩)
     · exact .inr (.inr ⟨k',h1,h2,mono _ h3,h4⟩)
 · rcases new z hz with hs | hs
   · exact (hw.2 z (st z hs) hz hs).1
   · exact h.hi z hs.2
 · rcases new z hz with hs | hs
   · rcases hs with rfl | hs
     · exact bm _ (hup hne)
     · exact .inl (upin z hz hs)
   · exact bm _ (h.up z hs.2 hne)
 · rcases new z hz with hs | hs
   · obtain ⟨q,hq,hA,hu⟩:=(hw.2 z (st z hs) hz hs).2.2.1 h2
     refine ⟨q,hq,.inl hA,fun y hB hyz=>?_⟩
     have hyk:cIn S y k=true:=by rcases hs with rfl | hs; exact hyz; exact cIn_tr hyz hs
     rcases hB with hB | ⟨_,x,hx,hxy⟩
     · obtain ⟨c,c1,c2,c3⟩:=child_of hyz
       have hck:Sub S c k:=Sub.trans (.inr (up_in c1 (cIn_range hyz).1)) hs
       have hcA:hasS A' c=true:=by
        rcases c3 with rfl | c3
        · exact hB
        · exact climb _ y c (Nat.le_refl _) hB hck c3
       have:=hu c (hT.mem_kids c1 (cIn_range hyz).1 (hw.2 c (st c hck) hcA hck).1) hcA
       rw [← this]
       exact c3
     · exact (hroot x hx (hxy.in_ hyk)).elim
   · obtain ⟨hs,hzA⟩:=hs
     obtain ⟨q,hq,hB,hu⟩:=h.one z hzA h2
     refine ⟨q,hq,bm _ hB,fun y hy hyz=>?_⟩
     have hold:Bk S X r A y→Sub S y q:=fun hb=>hu y hb hyz
     rcases hy with hy | hy
     · rcases new y hy with hyk | hyk
       · refine hyk.trans ?_
         have hkz:cIn S k z=true:=by
          rcases cmp (.inr hyz) hyk with h1 | h1 | h1
          · exact absurd (.inl h1) hs
          · exact absurd (.inr h1) hs
          · exact h1
         rcases hcon with hc | ⟨hc1,hc2⟩
         · exact hu k (.inr hc) hkz
         · rcases up_sub hkz with h1 | h1
           · rw [h1] at hc2; omega
           · exact Sub.trans (.inr (in_own hkz)) (hu _ (.inl hc1) h1)
       · exact hold (.inl hyk.2)
     · exact hold (.inr hy)
 · rcases new z hz with hs | hs
   · exact fun k' hk'=>.inl ((hw.2 z (st z hs) hz hs).2.2.2 h3 k' hk')
   · exact fun k' hk'=>bm _ (h.all z hs.2 hze h3 k' hk')
theorem IV.none {e x:Int} {A:Nat→Bool} (hX:CX S X r) (h:IV S X r e A) (hx:x ∈ X) (hn:¬ hasS A x=true):∀ y,isSt S y=true→Sub S y x→hasS A y=false:=fun y _ hs=>by
 rw [Bool.eq_false_iff]
 intro hy
 rcases h.src y hy with ⟨_,x',hx',h1⟩ | ⟨x',hx',h1,h2⟩ | ⟨k,h1,h2,h3,h4⟩
 · rcases h1.trans hs with he | he
   · subst he
     exact hn (by rw [sub_anti h1 hs]; exact hy)
   · exact hX.apart _ hx' _ hx he
 · rcases cmp h2 hs with he | he | he
   · exact hn (he ▸ h1)
   · exact hX.apart _ hx' _ hx he
   · exact hX.apart _ hx _ hx' he
 · have hxK:Kn S X r x:=⟨(hX.st x hx).2,x,hx,.inl rfl⟩
   rcases cmp h1 hs with he | he | he
   · exact h2 x hxK (.inl he.symm)
   · obtain ⟨_,x',hx',h5⟩:=h4
     rcases h5.trans (up_sub he) with h6 | h6
     · subst h6
       exact hn (by rw [sub_anti h5 (up_sub he)]; exact h3)
     · exact hX.apart _ hx' _ hx h6
   · exact h2 x hxK (.inr he)
theorem IV.add (hT:Tame S) (hX:CX S X r) {A:Nat→Bool} {p x:Int} (h:IV S X r (-1) A) (hp:cIn S p r=true) (hx:x ∈ X) (hxp:cIn S x p=true) (hn:¬ hasS A p=true):IV S X r p (addS A p):=by
 have hp0:=(cIn_range hxp).1
 have hK:Kn S X r p:=⟨hp,x,hx,.inr hxp⟩
 have hA:∀ y,hasS (addS A p) y=true→hasS A y=true ∨ y=p:=fun y hy=>by
  rw [hasS_add hp0] at hy
  simpa using hy
 have mono:∀ y,hasS A y=true→hasS (addS A p) y=true:=fun y hy=>by rw [hasS_add hp0,hy]; rfl
 have hB:∀ y,Bk S X r (addS A p) y→Bk S X r A y:=fun y hy=>by
  rcases hy with hy | hy
  · rcases hA y hy with h1 | h1
    · exact .inl h1
    · rw [h1]; exact .inr hK
  · exact .inr hy
 have bm:∀ y,Bk S X r A y→Bk S X r (addS A p) y:=fun y hy=>hy.imp (mono y) id
 refine ⟨fun z hz=>?_,fun z hz=>?_,fun z hz=>?_,fun z hz hne=>?_,fun z hz h2=>?_,fun z hz hze h3=>?_⟩
 · rcases hA z hz with h1 | rfl
   · exact h.in_ z h1
   · exact hp
 · rcases hA z hz with h1 | rfl
   · rcases h.src z h1 with h1 | ⟨x,hx,h1,h2⟩ | ⟨k',h1,h2,h3,h4⟩
     · exact .inl h1
     · exact .inr (.inl ⟨x,hx,mono _ h1,h2⟩)
     · exact .inr (.inr ⟨k',h1,h2,mono _ h3,h4⟩)
   · exact .inl hK
 · rcases hA z hz with h1 | rfl
   · exact h.hi z h1
   · exact hist_no hT hxp
 · rcases hA z hz with h1 | rfl
   · exact bm _ (h.up z h1 hne)
   · exact .inr (hK.up hne)
 · rcases hA z hz with h1 | rfl
   · obtain ⟨q,hq,hb,hu⟩:=h.one z h1 h2
     exact ⟨q,hq,bm _ hb,fun y hy hyz=>hu y (hB y hy) hyz⟩
   · obtain ⟨q,hq,hxq⟩:=kid_of hT hxp (hX.st x hx).1
     obtain ⟨q1,q2,q3,q4,q5⟩:=hT.kid_up hp0 hq
     have hroot:∀ x' ∈ X,cIn S x' z=true→Sub S x' q:=fun x' hx' hin=>hX.one z h2 (.inr hp) x hx x' hx' hxp hin q hq hxq
     have hKn:∀ y,Kn S X r y→cIn S y z=true→Sub S y q:=fun y hy hyz=>by
      obtain ⟨_,x',hx',hxy⟩:=hy
      obtain ⟨c,c1,c2,c3⟩:=child_of hyz
      have:=sub_one hp0 c1 q2 (hxy.trans c3) (hroot x' hx' (hxy.in_ hyz))
      rw [← this]
      exact c3
     refine ⟨q,hq,.inr ⟨cIn_tr q5 hp,x,hx,hxq⟩,fun y hy hyz=>?_⟩
     rcases hB y hy with hy | hy
     · rcases h.src y hy with h5 | ⟨x',hx',h5,h6⟩ | ⟨k,h5,h6,h7,h8⟩
       · exact hKn y h5 hyz
       · rcases cmp (.inr hyz) h6 with he | he | he
         · exact (hX.apart x hx x' hx' (he ▸ hxp)).elim
         · exact (hX.apart x hx x' hx' (cIn_tr hxp he)).elim
         · exact h6.trans (hroot x' hx' he)
       · rcases cmp (.inr hyz) h5 with he | he | he
         · exact (h6 z hK (.inl he)).elim
         · exact (h6 z hK (.inr he)).elim
         · rcases up_sub he with h9 | h9
           · exact (hn (h9 ▸ h7)).elim
           · exact h5.trans (Sub.trans (.inr (in_own he)) (hKn _ h8 h9))
     · exact hKn y hy hyz
 · rcases hA z hz with h1 | h1
   · have:=hasS_st h1
     exact fun k hk=>bm _ (h.all z h1 (by omega) h3 k hk)
   · exact absurd h1 hze
theorem IV.pass (hT:Tame S) {F:(Nat→Bool)→Int→(Nat→Bool)} (hF:FGood S F r) (hX:CX S X r) {e k:Int} {A:Nat→Bool} (h:IV S X r e A) (hk:isSt S k=true) (hh:histB (stAt S k).kind=false) (hkr:cIn S k r=true) (hke:k ≠ e) (hB:Bk S X r A k) (hR:∀ x ∈ X,Sub S x k→hasS A x=true):kidStep (someD S) F A k=A:=by
 by_cases hs:someD S A k=true
 · unfold kidStep
   rw [if_pos hs]
 · have hin:∀ y,isSt S y=true→cIn S y k=true→hasS A y=false:=fun y hy hyk=>by
    rw [Bool.eq_false_iff]
    intro hc
    exact hs (some_of hy hc hyk)
   have hrin:∀ x ∈ X,¬ cIn S x k=true:=fun x hx hxk=>by
    have:=hin x (cIn_range hxk).2.2 hxk
    rw [hR x hx (.inr hxk)] at this
    cases this
   have hA:hasS A k=true:=by
    rcases hB with h1 | ⟨_,x,hx,h1⟩
    · exact h1
    · rcases h1 with rfl | h1
      · exact hR _ hx (.inl rfl)
      · exact (hrin x hx h1).elim
   have hnob:∀ q ∈ kids S k,¬ Bk S X r A q:=fun q hq hb=>by
    obtain ⟨q1,q2,q3,q4,q5⟩:=hT.kid_up (isSt_iff.1 hk).1 hq
    rcases hb with hb | ⟨_,x,hx,h1⟩
    · rw [hin q q1 q5] at hb
      cases hb
    · exact hrin x hx (h1.in_ q5)
   refine hF.same k hk hh hkr A (WB.leaf hk hh (fun h2=>?_) (fun h3=>?_) hA hin)
   · obtain ⟨q,hq,hb,_⟩:=h.one k hA h2
     exact hnob q hq hb
   · obtain ⟨q,hq⟩:=List.exists_mem_of_ne_nil _ (hT.kid k hk (.inr h3))
     exact hnob q hq (h.all k hA hke h3 q hq)
end

section
variable {S:List St} {X:List Int} {r:Int}
theorem IV.kidsAll (hT:Tame S) {F:(Nat→Bool)→Int→(Nat→Bool)} (hF:FGood S F r) (hX:CX S X r) {p:Int} (hp:isSt S p=true) (hpr:cIn S p r=true) (h3:(stAt S p).kind=3) (hK:Kn S X r p) (hnx:p ∉ X):∀ (L:List Int) (A:Nat→Bool),(∀ k ∈ L,k ∈ kids S p)→L.Nodup→IV S X r p A→hasS A p=true→(∀ x ∈ X,cIn S x p=true→hasS A x=true) →
 (∀ k ∈ L,¬ Kn S X r k→∀ y,isSt S y=true→Sub S y k→hasS A y=false) →
 IV S X r p (L.foldl (kidStep (someD S) F) A)∧(∀ k ∈ L,Bk S X r (L.foldl (kidStep (someD S) F) A) k)∧(∀ y,hasS A y=true→hasS (L.foldl (kidStep (someD S) F) A) y=true)∧(∀ y,¬ cIn S y p=true→hasS (L.foldl (kidStep (someD S) F) A) y=hasS A y)∧∀ x ∈ X,hasS (L.foldl (kidStep (someD S) F) A) x=true→hasS A x=true
 | [],A,_,_,h,_,_,_=>⟨h,fun k hk=>(by cases hk),fun _ h=>h,fun _ _=>rfl,fun _ _ h=>h⟩
 | k :: L,A,hL,hnd,h,hpA,hR,hno=>by
  have hp0:=(isSt_iff.1 hp).1
  obtain ⟨k1,k2,k3,k4,k5⟩:=hT.kid_up hp0 (hL k (List.mem_cons_self ..))
  have hkr:=cIn_tr k5 hpr
  have hkp:k ≠ p:=by omega
  obtain ⟨hnk,hnd'⟩:=List.nodup_cons.1 hnd
  have hstep:IV S X r p (kidStep (someD S) F A k)∧Bk S X r (kidStep (someD S) F A k) k∧(∀ y,hasS A y=true→hasS (kidStep (someD S) F A k) y=true)∧(∀ y,¬ Sub S y k→hasS (kidStep (someD S) F A k) y=hasS A y)∧∀ x ∈ X,hasS (kidStep (someD S) F A k) x=true→hasS A x=true:=by
   by_cases hKk:Kn S X r k
   · rw [h.pass hT hF hX k1 k3 hkr hkp (.inr hKk) (fun x hx hs=>hR x hx (hs.in_ k5))]
     exact ⟨h,.inr hKk,fun _ h=>h,fun _ _=>rfl,fun _ _ h=>h⟩
   · have hn:=hno k (List.mem_cons_self ..) hKk
     have hsn:=some_not (S:=S) (A:=A) (k:=k) fun y hy hin=>hn y hy (.inr hin)
     have he:kidStep (someD S) F A k=F A k:=by unfold kidStep; rw [if_neg (by rw [hsn]; simp)]
     rw [he]
     have hroot:∀ x ∈ X,¬ Sub S x k:=fun x hx hs=>hKk ⟨hkr,x,hx,hs⟩
     obtain ⟨r1,r2,r3,r4⟩:=h.put hT hF k1 k3 hkr hn (fun x hx hin=>hroot x hx (.inr hin)) (fun _=>by rw [k2]; exact .inl hpA) (.inr (by rw [k2]; exact ⟨hpA,h3⟩)) (.inr (by
      rw [k2]
      exact ⟨fun y hy hs=>hKk (hy.sub hs hkr),hpA,hK⟩))
     exact ⟨r1,.inl r2,r4,r3,fun x hx hA=>by rw [← r3 x (hroot x hx)]; exact hA⟩
  obtain ⟨s1,s2,s3,s4,s5⟩:=hstep
  rw [List.foldl_cons]
  obtain ⟨t1,t2,t3,t4,t5⟩:=IV.kidsAll hT hF hX hp hpr h3 hK hnx L (kidStep (someD S) F A k) (fun x hx=>hL x (List.mem_cons_of_mem _ hx)) hnd' s1 (s3 p hpA) (fun x hx hin=>s3 x (hR x hx hin)) (fun k' hk' hKk' y hy hs=>by
   obtain ⟨q1,q2,q3,q4,q5⟩:=hT.kid_up hp0 (hL k' (List.mem_cons_of_mem _ hk'))
   rw [s4 y fun hs'=>hnk (by rw [sub_one hp0 k2 q2 hs' hs]; exact hk')]
   exact hno k' (List.mem_cons_of_mem _ hk') hKk' y hy hs)
  refine ⟨t1,fun k' hk'=>?_,fun y hy=>t3 y (s3 y hy),fun y hy=>?_,fun x hx hA=>s5 x hx (t5 x hx hA)⟩
  · rcases List.mem_cons.1 hk' with rfl | hk'
    · exact s2.imp (t3 _) id
    · exact t2 k' hk'
  · rw [t4 y hy]
    exact s4 y fun hs=>hy (hs.in_ k5)
theorem kids_nd (p:Int):(kids S p).Nodup:=by
 unfold kids kidsU
 refine List.Pairwise.map _ (fun a b h=>?_) (List.Pairwise.filter _ List.nodup_range)
 exact fun hc=>h (Int.ofNat.inj hc)
theorem IV.step (hT:Tame S) {F:(Nat→Bool)→Int→(Nat→Bool)} (hF:FGood S F r) (hX:CX S X r) {A:Nat→Bool} {p x:Int} (h:IV S X r (-1) A) (hpr:cIn S p r=true) (hx:x ∈ X) (hxp:cIn S x p=true) (hR:∀ x ∈ X,cIn S x p=true→hasS A x=true) :
 IV S X r (-1) (upStep S (someD S) addS F A p)∧hasS (upStep S (someD S) addS F A p) p=true∧(∀ y,hasS A y=true→hasS (upStep S (someD S) addS F A p) y=true)∧(∀ y,¬ Sub S y p→hasS (upStep S (someD S) addS F A p) y=hasS A y)∧∀ x ∈ X,hasS (upStep S (someD S) addS F A p) x=true→hasS A x=true:=by
 have hp:isSt S p=true:=(cIn_range hpr).2.2
 have hp0:=(isSt_iff.1 hp).1
 have hK:Kn S X r p:=⟨hpr,x,hx,.inr hxp⟩
 have hnx:p ∉ X:=fun hc=>hX.apart x hx p hc hxp
 by_cases hA:hasS A p=true
 · have hid:upStep S (someD S) addS F A p=A:=by
    unfold upStep
    rw [add_same hA]
    split
    · rename_i h3
      have:∀ (L:List Int),(∀ k ∈ L,k ∈ kids S p)→L.foldl (kidStep (someD S) F) A=A:=by
       intro L
       induction L with
       | nil=>intro _; rfl
       | cons k L ih =>
        intro hL
        obtain ⟨k1,k2,k3,k4,k5⟩:=hT.kid_up hp0 (hL k (List.mem_cons_self ..))
        rw [List.foldl_cons,h.pass hT hF hX k1 k3 (cIn_tr k5 hpr) (by omega) (h.all p hA (by omega) h3 k (hL k (List.mem_cons_self ..))) (fun x hx hs=>hR x hx (hs.in_ k5))]
        exact ih fun y hy=>hL y (List.mem_cons_of_mem _ hy)
      exact this _ fun _ h=>h
    · rfl
   rw [hid]
   exact ⟨h,hA,fun _ h=>h,fun _ _=>rfl,fun _ _ h=>h⟩
 · have h1:=h.add hT hX hpr hx hxp hA
   have hself:hasS (addS A p) p=true:=by rw [hasS_add hp0]; simp
   have mono:∀ y,hasS A y=true→hasS (addS A p) y=true:=fun y hy=>by rw [hasS_add hp0,hy]; rfl
   have hfr:∀ y,y ≠ p→hasS (addS A p) y=hasS A y:=fun y hy=>by rw [hasS_add hp0]; simp [hy]
   have hroot:∀ x ∈ X,hasS (addS A p) x=true→hasS A x=true:=fun y hy hA'=>by
    rw [← hfr y fun he=>hnx (he ▸ hy)]
    exact hA'
   unfold upStep
   split
   · rename_i h3
     obtain ⟨t1,t2,t3,t4,t5⟩:=IV.kidsAll hT hF hX hp hpr h3 hK hnx (kids S p) (addS A p) (fun _ h=>h) (kids_nd p) h1 hself (fun y hy hin=>mono y (hR y hy hin)) (fun k hk hKk y hy hs=>by
      obtain ⟨k1,k2,k3,k4,k5⟩:=hT.kid_up hp0 hk
      have hkr:=cIn_tr k5 hpr
      rw [hfr y fun he=>sub_irr (he ▸ hs) k5,Bool.eq_false_iff]
      intro hc
      rcases h.src y hc with h5 | ⟨x',hx',h5,h6⟩ | ⟨k',h5,h6,h7,h8⟩
      · exact hKk (h5.sub hs hkr)
      · rcases cmp hs h6 with he | he | he
        · exact hKk ⟨hkr,x',hx',.inl he.symm⟩
        · have:Sub S p x':=by rw [← k2]; exact up_sub he
          exact hX.apart x hx x' hx' (by
           rcases this with h9 | h9
           · rw [← h9]; exact hxp
           · exact cIn_tr hxp h9)
        · exact hKk ⟨hkr,x',hx',.inr he⟩
      · rcases cmp hs h5 with he | he | he
        · rw [← he,k2] at h7
          exact hA h7
        · have:Sub S p k':=by rw [← k2]; exact up_sub he
          exact h6 p hK this
        · exact hKk (h8.sub (up_sub he) hkr))
     refine ⟨⟨t1.in_,t1.src,t1.hi,t1.up,t1.one,fun z hz _ h3' k hk=>?_⟩,t3 p hself,fun y hy=>t3 y (mono y hy),fun y hy=>?_,fun y hy hA'=>hroot y hy (t5 y hy hA')⟩
     · by_cases hzp:z=p
       · rw [hzp] at hk
         exact t2 k hk
       · exact t1.all z hz hzp h3' k hk
     · show hasS (kidsW S (someD S) F p (addS A p)) y=hasS A y
       unfold kidsW
       rw [t4 y fun hc=>hy (.inr hc)]
       exact hfr y fun he=>hy (.inl he)
   · rename_i h3
     refine ⟨⟨h1.in_,h1.src,h1.hi,h1.up,h1.one,fun z hz _ h3' k hk=>?_⟩,hself,mono,fun y hy=>hfr y fun he=>hy (.inl he),hroot⟩
     exact h1.all z hz (fun he=>h3 (he ▸ h3')) h3' k hk
theorem IV.climb (hT:Tame S) {F:(Nat→Bool)→Int→(Nat→Bool)} (hF:FGood S F r) (hX:CX S X r) {c x:Int} (hc:Sub S c r) (hx:x ∈ X):∀ (n:Nat) (p:Int) (A:Nat→Bool),(p+1).toNat≤n→Sub S p c→cIn S x p=true→IV S X r (-1) A→(∀ x' ∈ X,cIn S x' c=true→hasS A x'=true) →
 IV S X r (-1) (upW S (someD S) addS F c (upsF S n p) A)∧(∀ y,hasS A y=true→hasS (upW S (someD S) addS F c (upsF S n p) A) y=true)∧(∀ p',Sub S p p'→cIn S p' c=true→hasS (upW S (someD S) addS F c (upsF S n p) A) p'=true)∧(∀ y,¬ cIn S y c=true→hasS (upW S (someD S) addS F c (upsF S n p) A) y=hasS A y)∧∀ x ∈ X,hasS (upW S (someD S) addS F c (upsF S n p) A) x=true→hasS A x=true
 | 0,p,A,hn,hpc,hxp,h,hR=>by
  have:=cIn_range hxp
  omega
 | n+1,p,A,hn,hpc,hxp,h,hR=>by
  have hp0:=(cIn_range hxp).1
  rw [upsF,if_neg (by omega),upW]
  by_cases he:p=c
  · rw [if_pos he]
    exact ⟨h,fun _ h=>h,fun p' h1 h2=>(sub_irr (he ▸ h1) h2).elim,fun _ _=>rfl,fun _ _ h=>h⟩
  · rw [if_neg he]
    have hpin:cIn S p c=true:=hpc.resolve_left he
    have hpr:cIn S p r=true:=by rcases hc with rfl | hc; exact hpin; exact cIn_tr hpin hc
    obtain ⟨s1,s2,s3,s4,s5⟩:=h.step hT hF hX hpr hx hxp (fun x' hx' hin=>hR x' hx' (cIn_tr hin hpin))
    have hu:=(cUp_pos ((cIn_iff _ _ _).1 hpin).1).2.2
    obtain ⟨t1,t2,t3,t4,t5⟩:=IV.climb hT hF hX hc hx n (cUp S p) (upStep S (someD S) addS F A p) (by omega) (up_sub hpin) (cIn_tr hxp (in_own hpin)) s1 (fun x' hx' hin=>s3 x' (hR x' hx' hin))
    refine ⟨t1,fun y hy=>t2 y (s3 y hy),fun p' h1 h2=>?_,fun y hy=>?_,fun y hy hA=>s5 y hy (t5 y hy hA)⟩
    · rcases h1 with rfl | h1
      · exact t2 _ s2
      · exact t3 p' (up_sub h1) h2
    · rw [t4 y hy]
      exact s4 y fun hs=>hy (hs.in_ hpin)
theorem IV.above (hT:Tame S) {F:(Nat→Bool)→Int→(Nat→Bool)} (hF:FGood S F r) (hX:CX S X r) {c x:Int} (hc:Sub S c r) (hx:x ∈ X) (hxc:cIn S x c=true) {A:Nat→Bool} (h:IV S X r (-1) A) (hR:∀ x' ∈ X,cIn S x' c=true→hasS A x'=true) :
 IV S X r (-1) (aboveW S (someD S) addS F c A x)∧(∀ y,hasS A y=true→hasS (aboveW S (someD S) addS F c A x) y=true)∧(∀ p',cIn S x p'=true→cIn S p' c=true→hasS (aboveW S (someD S) addS F c A x) p'=true)∧(∀ y,¬ cIn S y c=true→hasS (aboveW S (someD S) addS F c A x) y=hasS A y)∧∀ x' ∈ X,hasS (aboveW S (someD S) addS F c A x) x'=true→hasS A x'=true:=by
 have hu:=cUp_pos ((cIn_iff _ _ _).1 hxc).1
 obtain ⟨t1,t2,t3,t4,t5⟩:=IV.climb hT hF hX hc hx (x.toNat+1) (cUp S x) A (by have:=hu.2.2; have:=(cIn_range hxc).1; omega) (up_sub hxc) (in_own hxc) h hR
 exact ⟨t1,t2,fun p' h1 h2=>t3 p' (up_sub h1) h2,t4,t5⟩
theorem IV.aboves (hT:Tame S) {F:(Nat→Bool)→Int→(Nat→Bool)} (hF:FGood S F r) (hX:CX S X r) {c:Int} (hc:Sub S c r):∀ (L:List Int) (A:Nat→Bool),(∀ x ∈ L,x ∈ X∧cIn S x c=true)→IV S X r (-1) A→(∀ x' ∈ X,cIn S x' c=true→hasS A x'=true) →
 IV S X r (-1) (L.foldl (aboveW S (someD S) addS F c) A)∧(∀ y,hasS A y=true→hasS (L.foldl (aboveW S (someD S) addS F c) A) y=true)∧(∀ x ∈ L,∀ p',cIn S x p'=true→cIn S p' c=true→hasS (L.foldl (aboveW S (someD S) addS F c) A) p'=true)∧(∀ y,¬ cIn S y c=true→hasS (L.foldl (aboveW S (someD S) addS F c) A) y=hasS A y)∧∀ x' ∈ X,hasS (L.foldl (aboveW S (someD S) addS F c) A) x'=true→hasS A x'=true
 | [],A,_,h,_=>⟨h,fun _ h=>h,fun x hx=>(by cases hx),fun _ _=>rfl,fun _ _ h=>h⟩
 | x :: L,A,hL,h,hR=>by
  obtain ⟨hx,hxc⟩:=hL x (List.mem_cons_self ..)
  obtain ⟨s1,s2,s3,s4,s5⟩:=h.above hT hF hX hc hx hxc hR
  rw [List.foldl_cons]
  obtain ⟨t1,t2,t3,t4,t5⟩:=IV.aboves hT hF hX hc L (aboveW S (someD S) addS F c A x) (fun y hy=>hL y (List.mem_cons_of_mem _ hy)) s1 (fun x' hx' hin=>s2 x' (hR x' hx' hin))
  refine ⟨t1,fun y hy=>t2 y (s2 y hy),fun x' hx' p' h1 h2=>?_,fun y hy=>(t4 y hy).trans (s4 y hy),fun y hy hA=>s5 y hy (t5 y hy hA)⟩
  rcases List.mem_cons.1 hx' with rfl | hx'
  · exact t2 p' (s3 p' h1 h2)
  · exact t3 x' hx' p' h1 h2
theorem IV.downs (hT:Tame S) {F:(Nat→Bool)→Int→(Nat→Bool)} (hF:FGood S F r) (hX:CX S X r):∀ (L:List Int) (A:Nat→Bool),(∀ x ∈ L,x ∈ X∧¬ hasS A x=true)→L.Nodup→IV S X r (-1) A →
 IV S X r (-1) (L.foldl F A)∧(∀ y,hasS A y=true→hasS (L.foldl F A) y=true)∧(∀ x ∈ L,hasS (L.foldl F A) x=true)∧(∀ y,(∀ x ∈ L,¬ Sub S y x)→hasS (L.foldl F A) y=hasS A y)
 | [],A,_,_,h=>⟨h,fun _ h=>h,fun x hx=>(by cases hx),fun _ _=>rfl⟩
 | x :: L,A,hL,hnd,h=>by
  obtain ⟨hx,hxA⟩:=hL x (List.mem_cons_self ..)
  obtain ⟨hnx,hnd'⟩:=List.nodup_cons.1 hnd
  have hxr:=(hX.st x hx).2
  obtain ⟨s1,s2,s3,s4⟩:=h.put hT hF (cIn_range hxr).2.2 (hX.st x hx).1 hxr (h.none hX hx hxA) (fun x' hx'=>hX.apart x' hx' x hx) (fun hne=>.inr (Kn.up ⟨hxr,x,hx,.inl rfl⟩ hne)) (.inl ⟨hxr,x,hx,.inl rfl⟩) (.inl hx)
  rw [List.foldl_cons]
  obtain ⟨t1,t2,t3,t4⟩:=IV.downs hT hF hX L (F A x) (fun y hy=>by
   obtain ⟨hy1,hy2⟩:=hL y (List.mem_cons_of_mem _ hy)
   refine ⟨hy1,?_⟩
   rw [s3 y fun hs=>?_]
   · exact hy2
   · rcases hs with rfl | hs
     · exact hnx hy
     · exact hX.apart y hy1 x hx hs) hnd' s1
  refine ⟨t1,fun y hy=>t2 y (s4 y hy),fun y hy=>?_,fun y hy=>?_⟩
  · rcases List.mem_cons.1 hy with rfl | hy
    · exact t2 _ s2
    · exact t3 y hy
  · rw [t4 y fun x' hx'=>hy x' (List.mem_cons_of_mem _ hx')]
    exact s3 y (hy x (List.mem_cons_self ..))
end

def Part (S:List St) (a b:Int):Prop:=¬ Sub S a b∧¬ Sub S b a∧∃ P,(stAt S P).kind=3∧cIn S a P=true∧cIn S b P=true∧∀ c,cIn S a c=true→cIn S b c=true→Sub S P c
theorem Part.symm {S:List St} {a b:Int} (h:Part S a b):Part S b a:=by
 obtain ⟨h1,h2,P,h3,h4,h5,h6⟩:=h
 exact ⟨h2,h1,P,h3,h5,h4,fun c k1 k2=>h6 c k2 k1⟩
theorem part_up {S:List St} {a b:Int}:∀ (n:Nat) (p:Int),apF S n p b=true→cIn S a p=true→(∀ c,cIn S a c=true→cIn S b c=true→Sub S p c)→∃ P,(stAt S P).kind=3∧cIn S a P=true∧cIn S b P=true∧∀ c,cIn S a c=true→cIn S b c=true→Sub S P c
 | 0,p,h,_,_=>by rw [apF] at h; cases h
 | n+1,p,h,hp,hc=>by
  rw [apF] at h
  split at h
  · cases h
  · split at h
    · rename_i hb
      exact ⟨p,by simpa using h,hp,hb,hc⟩
    · rename_i h0 hb
      have hall:∀ c,cIn S a c=true→cIn S b c=true→cIn S p c=true:=fun c k1 k2=>(hc c k1 k2).resolve_left fun he=>hb (he ▸ k2)
      by_cases hu:0≤cUp S p
      · exact part_up n (cUp S p) h (cIn_tr hp ((cIn_iff _ _ _).2 ⟨hu,.inl rfl⟩)) fun c k1 k2=>up_sub (hall c k1 k2)
      · exfalso
        cases n with
        | zero=>rw [apF] at h; cases h
        | succ n=>rw [apF,if_pos (by omega)] at h; cases h
theorem part_of {S:List St} {a b:Int} (h:apart S a b=true):Part S a b:=by
 unfold apart at h
 split at h
 · cases h
 · rename_i hn
   have h1:¬ Sub S a b:=fun hs=>hn (by rcases hs with h | h; exact .inl h; exact .inr (.inl h))
   have h2:¬ Sub S b a:=fun hs=>hn (by rcases hs with h | h; exact .inl h.symm; exact .inr (.inr h))
   by_cases hu:0≤cUp S a
   · exact ⟨h1,h2,part_up _ _ h ((cIn_iff _ _ _).2 ⟨hu,.inl rfl⟩) fun c k1 _=>up_sub k1⟩
   · rw [apF,if_pos (by omega)] at h
     cases h
structure HOk (S:List St) (H:List Nat):Prop where
 real:∀ s,isSt S s=true→histB (stAt S s).kind=true→∀ x ∈ ofS S H s,histB (stAt S x).kind=false∧cIn S x (stAt S s).par=true
 flat:∀ s,isSt S s=true→histB (stAt S s).kind=true→∀ x ∈ ofS S H s,∀ y ∈ ofS S H s,¬ cIn S x y=true
 one:∀ s,isSt S s=true→histB (stAt S s).kind=true→∀ c,(stAt S c).kind=2→Sub S c (stAt S s).par→∀ x ∈ ofS S H s,∀ y ∈ ofS S H s,cIn S x c=true→cIn S y c=true→∀ q ∈ kids S c,Sub S x q→Sub S y q
 some:∀ s,isSt S s=true→histB (stAt S s).kind=true→ofS S H s ≠ []
structure TOk (S:List St) (r:Int) (l:List Int):Prop where
 st:∀ t ∈ l,isSt S t=true∧cIn S (cCnt S t) r=true
 part:l.Pairwise fun t t'=>Part S (cCnt S t) (cCnt S t')
 some:l ≠ []
theorem ofS_plain {S:List St} {H:List Nat} {t:Int} (h:isSt S t=true) (hh:histB (stAt S t).kind=false):ofS S H t=[t]:=by
 unfold ofS
 rw [if_neg (by rw [h]; simp),if_pos hh]
theorem memb_nodup (S:List St) (P:Nat→Bool):(memb S P).Nodup:=by
 unfold memb
 refine List.Pairwise.map _ (fun a b h=>?_) (List.Pairwise.filter _ List.nodup_range)
 exact fun hc=>h (Int.ofNat.inj hc)
theorem ofS_nodup {S:List St} (hT:Tame S) {H:List Nat} {t:Int}:(ofS S H t).Nodup:=by
 unfold ofS
 split
 · exact List.nodup_nil
 · rename_i h0
   split
   · simp
   · rename_i hh
     split
     · exact memb_nodup _ _
     · obtain ⟨x,hx,_⟩:=hT.ini5 t (by simpa using h0) (by simpa using hh)
       rw [hx]
       simp
section
variable {S:List St} {H:List Nat} {r:Int} {l:List Int}
theorem real_sub (hH:HOk S H) {t x:Int} (ht:isSt S t=true) (hx:x ∈ ofS S H t):Sub S x (cCnt S t)∧histB (stAt S x).kind=false:=by
 unfold cCnt
 cases hh:histB (stAt S t).kind with
 | false =>
  rw [ofS_plain ht hh] at hx
  rw [List.mem_singleton.1 hx]
  exact ⟨.inl rfl,hh⟩
 | true =>
  obtain ⟨h1,h2⟩:=hH.real t ht hh x hx
  exact ⟨.inr h2,h1⟩
theorem pair_of {R:Int→Int→Prop} (hs:∀ a b,R a b→R b a):∀ {l:List Int},l.Pairwise R→∀ a ∈ l,∀ b ∈ l,a=b ∨ R a b
 | [],_,a,ha,_,_=>by cases ha
 | x :: l,h,a,ha,b,hb=>by
  obtain ⟨h1,h2⟩:=List.pairwise_cons.1 h
  rcases List.mem_cons.1 ha with ha1 | ha1
  · rcases List.mem_cons.1 hb with hb1 | hb1
    · exact .inl (ha1.trans hb1.symm)
    · exact .inr (ha1 ▸ h1 b hb1)
  · rcases List.mem_cons.1 hb with hb1 | hb1
    · exact .inr (hs _ _ (hb1 ▸ h1 a ha1))
    · exact pair_of hs h2 a ha1 b hb1
theorem TOk.pair (h:TOk S r l) {t t':Int} (ht:t ∈ l) (ht':t' ∈ l):t=t' ∨ Part S (cCnt S t) (cCnt S t'):=pair_of (R:=fun t t'=>Part S (cCnt S t) (cCnt S t')) (fun _ _ h=>h.symm) h.part t ht t' ht'
theorem Part.no {a b x y:Int} (h:Part S a b) (hx:Sub S x a) (hy:Sub S y b):¬ Sub S x y:=fun hxy=>by
 rcases cmp hx (hxy.trans hy) with he | he | he
 · exact h.1 (.inl he)
 · exact h.1 (.inr he)
 · exact h.2.1 (.inr he)
theorem TOk.cx (hT:Tame S) (hH:HOk S H) (h:TOk S r l):CX S (l.flatMap (ofS S H)) r:=by
 refine ⟨fun x hx=>?_,fun x hx y hy hxy=>?_,fun c hc hcr x hx y hy hxc hyc q hq hxq=>?_⟩
 · obtain ⟨t,ht,hx⟩:=List.mem_flatMap.1 hx
   obtain ⟨h1,h2⟩:=h.st t ht
   obtain ⟨h3,h4⟩:=real_sub hH h1 hx
   exact ⟨h4,h3.in_ h2⟩
 · obtain ⟨t,ht,hx⟩:=List.mem_flatMap.1 hx
   obtain ⟨t',ht',hy⟩:=List.mem_flatMap.1 hy
   rcases h.pair ht ht' with rfl | hp
   · cases hh:histB (stAt S t).kind with
     | false =>
      rw [ofS_plain (h.st t ht).1 hh] at hx hy
      rw [List.mem_singleton.1 hx,List.mem_singleton.1 hy] at hxy
      exact cIn_self hxy
     | true=>exact hH.flat t (h.st t ht).1 hh x hx y hy hxy
   · exact hp.no (real_sub hH (h.st t ht).1 hx).1 (real_sub hH (h.st t' ht').1 hy).1 (.inr hxy)
 · obtain ⟨t,ht,hx⟩:=List.mem_flatMap.1 hx
   obtain ⟨t',ht',hy⟩:=List.mem_flatMap.1 hy
   have hc0:=(cIn_range hxc).1
   obtain ⟨hxs,hxh⟩:=real_sub hH (h.st t ht).1 hx
   obtain ⟨hys,hyh⟩:=real_sub hH (h.st t' ht').1 hy
   obtain ⟨q1,q2,q3,q4,q5⟩:=hT.kid_up hc0 hq
   -- both are in something that is in c
   have via:∀ P,Sub S x P→Sub S y P→cIn S P c=true→Sub S y q:=fun P h1 h2 h3=>by
    obtain ⟨q',d1,d2,d3⟩:=child_of h3
    have:=sub_one hc0 d1 q2 (h1.trans d3) hxq
    rw [← this]
    exact h2.trans d3
   rcases h.pair ht ht' with rfl | hp
   · cases hh:histB (stAt S t).kind with
     | false =>
      rw [ofS_plain (h.st t ht).1 hh] at hx hy
      rw [List.mem_singleton.1 hy,← List.mem_singleton.1 hx]
      exact hxq
     | true =>
      have hcc:cCnt S t=(stAt S t).par:=by unfold cCnt; rw [if_pos hh]
      rw [hcc] at hxs hys
      rcases cmp (.inr hxc) hxs with he | he | he
      · exact hH.one t (h.st t ht).1 hh c hc (.inl he) x hx y hy hxc hyc q hq hxq
      · exact hH.one t (h.st t ht).1 hh c hc (.inr he) x hx y hy hxc hyc q hq hxq
      · exact via _ hxs hys he
   · have hgx:cIn S (cCnt S t) c=true:=by
      rcases cmp hxs (.inr hxc) with he | he | he
      · exact (hp.symm.no hys (.inl rfl) (.inr (he ▸ hyc))).elim
      · exact he
      · exact (hp.symm.no hys (.inl rfl) (.inr (cIn_tr hyc he))).elim
     have hgy:cIn S (cCnt S t') c=true:=by
      rcases cmp hys (.inr hyc) with he | he | he
      · exact (hp.no hxs (.inl rfl) (.inr (he ▸ hxc))).elim
      · exact he
      · exact (hp.no hxs (.inl rfl) (.inr (cIn_tr hxc he))).elim
     obtain ⟨_,_,P,p1,p2,p3,p4⟩:=hp
     rcases p4 c hgx hgy with he | he
     · rw [he] at p1; omega
     · exact via P (hxs.trans (.inr p2)) (hys.trans (.inr p3)) he
theorem IV.targets (hT:Tame S) (hH:HOk S H) (hl:TOk S r l) (hr:isSt S r=true) (hhr:histB (stAt S r).kind=false):∀ (L:List Int) (A:Nat→Bool),(∀ t ∈ L,t ∈ l)→(L.Pairwise fun t t'=>Part S (cCnt S t) (cCnt S t'))→IV S (l.flatMap (ofS S H)) r (-1) A→(∀ t ∈ L,∀ x ∈ ofS S H t,¬ hasS A x=true) →
 IV S (l.flatMap (ofS S H)) r (-1) (L.foldl (dB S H (S.length+2)) A)∧(∀ y,hasS A y=true→hasS (L.foldl (dB S H (S.length+2)) A) y=true)∧∀ t ∈ L,∀ x ∈ ofS S H t,hasS (L.foldl (dB S H (S.length+2)) A) x=true
 | [],A,_,_,h,_=>⟨h,fun _ h=>h,fun t ht=>(by cases ht)⟩
 | t :: L,A,hL,hP,h,hn=>by
  have htl:=hL t (List.mem_cons_self ..)
  obtain ⟨ht,htr⟩:=hl.st t htl
  obtain ⟨hp1,hp2⟩:=List.pairwise_cons.1 hP
  have hX:=hl.cx hT hH
  have hXm:∀ x ∈ ofS S H t,x ∈ l.flatMap (ofS S H):=fun x hx=>List.mem_flatMap.2 ⟨t,htl,hx⟩
  have hrk:=rk_le hr hhr
  have hstep:IV S (l.flatMap (ofS S H)) r (-1) (dB S H (S.length+2) A t)∧(∀ y,hasS A y=true→hasS (dB S H (S.length+2) A t) y=true)∧(∀ x ∈ ofS S H t,hasS (dB S H (S.length+2) A t) x=true)∧∀ y ∈ l.flatMap (ofS S H),(∀ x ∈ ofS S H t,¬ Sub S y x)→hasS (dB S H (S.length+2) A t) y=true→hasS A y=true:=by
   cases hh:histB (stAt S t).kind with
   | false =>
    have hof:=ofS_plain (H:=H) ht hh
    obtain ⟨r1,r2,r3,r4⟩:=IV.downs hT (fgood_dB hT (H:=H) (S.length+2) r hr hhr (by omega)) hX [t] A (fun x hx=>by
     rw [List.mem_singleton.1 hx]
     exact ⟨hXm t (by rw [hof]; simp),hn t (List.mem_cons_self ..) t (by rw [hof]; simp)⟩) (by simp) h
    rw [hof]
    exact ⟨r1,r2,r3,fun y hy hs hA=>by rw [← r4 y hs]; exact hA⟩
   | true =>
    have hc:Sub S (stAt S t).par r:=by
     have:cCnt S t=(stAt S t).par:=by unfold cCnt; rw [if_pos hh]
     rw [this] at htr
     exact .inr htr
    have hcc:cCnt S t=(stAt S t).par:=by unfold cCnt; rw [if_pos hh]
    have hF:=fgood_dB hT (H:=H) (S.length+1) r hr hhr (by omega)
    obtain ⟨r1,r2,r3,r4⟩:=IV.downs hT hF hX (ofS S H t) A (fun x hx=>⟨hXm x hx,hn t (List.mem_cons_self ..) x hx⟩) (ofS_nodup hT) h
    obtain ⟨u1,u2,u3,u4,u5⟩:=IV.aboves hT hF hX hc (ofS S H t) ((ofS S H t).foldl (dB S H (S.length+1)) A) (fun x hx=>⟨hXm x hx,(hH.real t ht hh x hx).2⟩) r1 (fun x' hx' hin=>by
     obtain ⟨t',ht',hx'⟩:=List.mem_flatMap.1 hx'
     rcases hl.pair htl ht' with rfl | hp
     · exact r3 x' hx'
     · exact (hp.symm.no (real_sub hH (hl.st t' ht').1 hx').1 (.inl rfl) (by rw [hcc]; exact .inr hin)).elim)
    have he:dB S H (S.length+2) A t=(ofS S H t).foldl (aboveW S (someD S) addS (dB S H (S.length+1)) (stAt S t).par) ((ofS S H t).foldl (dB S H (S.length+1)) A):=by
     show dB S H (S.length+1+1) A t=_
     rw [dB,if_neg (by rw [ht]; simp),if_pos hh]
     rfl
    rw [he]
    exact ⟨u1,fun y hy=>u2 y (r2 y hy),fun x hx=>u2 x (r3 x hx),fun y hy hs hA=>by
     rw [← r4 y hs]
     exact u5 y hy hA⟩
  obtain ⟨s1,s2,s3,s4⟩:=hstep
  rw [List.foldl_cons]
  obtain ⟨t1,t2,t3⟩:=IV.targets hT hH hl hr hhr L (dB S H (S.length+2) A t) (fun x hx=>hL x (List.mem_cons_of_mem _ hx)) hp2 s1 (fun t' ht' x hx hc=>by
   have ht'l:=hL t' (List.mem_cons_of_mem _ ht')
   refine hn t' (List.mem_cons_of_mem _ ht') x hx (s4 x (List.mem_flatMap.2 ⟨t',ht'l,hx⟩) (fun x' hx' hs=>?_) hc)
   exact (hp1 t' ht').symm.no (real_sub hH (hl.st t' ht'l).1 hx).1 (real_sub hH ht hx').1 hs)
  refine ⟨t1,fun y hy=>t2 y (s2 y hy),fun t' ht' x hx=>?_⟩
  rcases List.mem_cons.1 ht' with rfl | ht'
  · exact t2 x (s3 x hx)
  · exact t3 t' ht' x hx
theorem realIn_iff {acc:List Int} {x y:Int}:y ∈ realIn acc x ↔ y ∈ acc ∨ y=x:=by
 unfold realIn
 split
 · rename_i h
   constructor
   · exact .inl
   · rintro (h' | rfl)
     · exact h'
     · simpa using h
 · simp
theorem realF_mem {y:Int}:∀ (L acc:List Int),y ∈ L.foldl realIn acc ↔ y ∈ acc ∨ y ∈ L
 | [],acc=>by simp
 | x :: L,acc=>by
  rw [List.foldl_cons,realF_mem L,realIn_iff,List.mem_cons]
  constructor
  · rintro ((h | h) | h)
    · exact .inl h
    · exact .inr (.inl h)
    · exact .inr (.inr h)
  · rintro (h | h | h)
    · exact .inl (.inl h)
    · exact .inl (.inr h)
    · exact .inr h
theorem realG_mem {y:Int}:∀ (L acc:List Int),y ∈ L.foldl (fun acc s=>(ofS S H s).foldl realIn acc) acc ↔ y ∈ acc ∨ y ∈ L.flatMap (ofS S H)
 | [],acc=>by simp
 | x :: L,acc=>by
  rw [List.foldl_cons,realG_mem L,realF_mem,List.flatMap_cons,List.mem_append]
  constructor
  · rintro ((h | h) | h)
    · exact .inl h
    · exact .inr (.inl h)
    · exact .inr (.inr h)
  · rintro (h | h | h)
    · exact .inl (.inl h)
    · exact .inl (.inr h)
    · exact .inr h
theorem realS_mem {y:Int}:y ∈ realS S H l ↔ y ∈ l.flatMap (ofS S H):=by
 unfold realS
 rw [realG_mem]
 simp
structure WIn (S:List St) (r:Int) (A:Nat→Bool):Prop where
 in_:∀ z,hasS A z=true→cIn S z r=true
 hi:∀ z,hasS A z=true→histB (stAt S z).kind=false
 up:∀ z,hasS A z=true→cUp S z ≠ r→hasS A (cUp S z)=true
 two:∀ z,hasS A z=true→(stAt S z).kind=2→∃ q ∈ kids S z,hasS A q=true∧∀ k ∈ kids S z,hasS A k=true→k=q
 three:∀ z,hasS A z=true→(stAt S z).kind=3→∀ k ∈ kids S z,hasS A k=true
 top:∃ q ∈ kids S r,hasS A q=true∧∀ k ∈ kids S r,hasS A k=true→k=q
theorem dset_whole (hT:Tame S) (hH:HOk S H) (hl:TOk S r l) (hr:isSt S r=true) (h2:(stAt S r).kind=2):WIn S r (dSet S H r l):=by
 have hhr:histB (stAt S r).kind=false:=histB_23 (.inl h2)
 have hX:=hl.cx hT hH
 have hr0:=(isSt_iff.1 hr).1
 obtain ⟨a1,a2,a3⟩:=IV.targets hT hH hl hr hhr l (fun _=>false) (fun _ h=>h) hl.part IV.empty (fun t _ x _ hc=>by simp [hasS] at hc)
 have hXA:∀ x ∈ l.flatMap (ofS S H),hasS (l.foldl (dB S H (S.length+2)) fun _=>false) x=true:=fun x hx=>by
  obtain ⟨t,ht,hx⟩:=List.mem_flatMap.1 hx
  exact a3 t ht x hx
 have hF:=fgood_dB hT (H:=H) (S.length+2) r hr hhr (by have:=rk_le hr hhr; omega)
 obtain ⟨b1,b2,b3,b4,b5⟩:=IV.aboves hT hF hX (.inl rfl) (realS S H l) (l.foldl (dB S H (S.length+2)) fun _=>false) (fun x hx=>⟨realS_mem.1 hx,(hX.st x (realS_mem.1 hx)).2⟩) a1 (fun x hx _=>hXA x hx)
 have he:dSet S H r l=(realS S H l).foldl (aboveW S (someD S) addS (dB S H (S.length+2)) r) (l.foldl (dB S H (S.length+2)) fun _=>false):=rfl
 rw [← he] at b1 b2 b3 b4 b5
 generalize dSet S H r l=A at *
 have hK:∀ y,Kn S (l.flatMap (ofS S H)) r y→hasS A y=true:=fun y hy=>by
  obtain ⟨h1,x,hx,hs⟩:=hy
  rcases hs with rfl | hs
  · exact b2 _ (hXA _ hx)
  · exact b3 x (realS_mem.2 hx) y hs h1
 have hB:∀ y,Bk S (l.flatMap (ofS S H)) r A y→hasS A y=true:=fun y hy=>hy.elim id (hK y)
 refine ⟨b1.in_,b1.hi,fun z hz hne=>hB _ (b1.up z hz hne),fun z hz hk=>?_,fun z hz hk k hk'=>hB _ (b1.all z hz (by have:=hasS_st hz; omega) hk k hk'),?_⟩
 · obtain ⟨q,hq,hb,hu⟩:=b1.one z hz hk
   refine ⟨q,hq,hB q hb,fun k hk' hA=>?_⟩
   have hz0:=hasS_st hz
   obtain ⟨k1,k2,k3,k4,k5⟩:=hT.kid_up hz0 hk'
   obtain ⟨q1,q2,q3,q4,q5⟩:=hT.kid_up hz0 hq
   exact sub_one hz0 k2 q2 (.inl rfl) (hu k (.inl hA) k5)
 · obtain ⟨t,ht⟩:=List.exists_mem_of_ne_nil _ hl.some
   have hof:ofS S H t ≠ []:=by
    cases hh:histB (stAt S t).kind with
    | false=>rw [ofS_plain (hl.st t ht).1 hh]; simp
    | true=>exact hH.some t (hl.st t ht).1 hh
   obtain ⟨x,hx⟩:=List.exists_mem_of_ne_nil _ hof
   have hxX:x ∈ l.flatMap (ofS S H):=List.mem_flatMap.2 ⟨t,ht,hx⟩
   obtain ⟨hxh,hxr⟩:=hX.st x hxX
   obtain ⟨q,hq,hxq⟩:=kid_of hT hxr hxh
   obtain ⟨q1,q2,q3,q4,q5⟩:=hT.kid_up hr0 hq
   refine ⟨q,hq,hK q ⟨q5,x,hxX,hxq⟩,fun k hk hA=>?_⟩
   obtain ⟨k1,k2,k3,k4,k5⟩:=hT.kid_up hr0 hk
   have hroot:∀ y ∈ l.flatMap (ofS S H),Sub S y q:=fun y hy=>hX.one r h2 (.inl rfl) x hxX y hy hxr (hX.st y hy).2 q hq hxq
   rcases b1.src k hA with ⟨_,y,hy,h5⟩ | ⟨y,hy,h5,h6⟩ | ⟨k',h5,h6,h7,h8⟩
   · exact sub_one hr0 k2 q2 h5 (hroot y hy)
   · exact sub_one hr0 k2 q2 (.inl rfl) (h6.trans (hroot y hy))
   · rcases h5 with rfl | h5
     · rw [k2] at h8
       exact (cIn_self h8.1).elim
     · have h9:Sub S r k':=by rw [← k2]; exact up_sub h5
       have hk'0:0≤k':=by rcases h9 with h9 | h9; omega; exact (cIn_range h9).1
       have h10:=h8.1
       have:=cIn_range h10
       have h11:=(cUp_pos (S:=S) (s:=k') (by omega)).2.2
       rcases h9 with h9 | h9
       · omega
       · have:=cIn_range h9
         omega
end

def stepS (S:List St) (A:Nat→Bool) (L:List (Int × (Nat→Bool))):Nat→Bool:=fun y=>(A y && !(L.any fun p=>cIn S (y:Int) p.1)) || L.any fun p=>p.2 y
theorem stepS_has {S:List St} {A:Nat→Bool} {L:List (Int × (Nat→Bool))} {z:Int}:hasS (stepS S A L) z=true ↔ (hasS A z=true∧∀ p ∈ L,¬ cIn S z p.1=true) ∨ ∃ p ∈ L,hasS p.2 z=true:=by
 unfold hasS stepS
 by_cases hz:0≤z
 · obtain ⟨k,rfl⟩:∃ k:Nat,z=(k:Int):=⟨z.toNat,by omega⟩
   simp
 · simp [hz]
structure KeptL (S:List St) (A:Nat→Bool) (L:List (Int × (Nat→Bool))):Prop where
 act:∀ p ∈ L,hasS A p.1=true∧(stAt S p.1).kind=2
 win:∀ p ∈ L,WIn S p.1 p.2
 part:L.Pairwise fun p p'=>¬ Sub S p.1 p'.1∧¬ Sub S p'.1 p.1
theorem pair2_of {α:Type} {R:α→α→Prop} (hs:∀ a b,R a b→R b a):∀ {l:List α},l.Pairwise R→∀ a ∈ l,∀ b ∈ l,a=b ∨ R a b
 | [],_,a,ha,_,_=>by cases ha
 | x :: l,h,a,ha,b,hb=>by
  obtain ⟨h1,h2⟩:=List.pairwise_cons.1 h
  rcases List.mem_cons.1 ha with ha1 | ha1
  · rcases List.mem_cons.1 hb with hb1 | hb1
    · exact .inl (ha1.trans hb1.symm)
    · exact .inr (ha1 ▸ h1 b hb1)
  · rcases List.mem_cons.1 hb with hb1 | hb1
    · exact .inr (hs _ _ (hb1 ▸ h1 a ha1))
    · exact pair2_of hs h2 a ha1 b hb1
theorem KeptL.same {S:List St} {A:Nat→Bool} {L:List (Int × (Nat→Bool))} (h:KeptL S A L) {p p':Int × (Nat→Bool)} (hp:p ∈ L) (hp':p' ∈ L) (hs:Sub S p.1 p'.1 ∨ Sub S p'.1 p.1):p=p':=by
 rcases pair2_of (R:=fun p p':Int × (Nat→Bool)=>¬ Sub S p.1 p'.1∧¬ Sub S p'.1 p.1) (fun _ _ h=>⟨h.2,h.1⟩) h.part p hp p' hp' with h1 | h1
 · exact h1
 · rcases hs with hs | hs
   · exact (h1.1 hs).elim
   · exact (h1.2 hs).elim
theorem WB.at0 {S:List St} (hT:Tame S) {A:Nat→Bool} (h:WB S A 0) {z:Int} (hz:isSt S z=true) (hA:hasS A z=true):WAt S A 0 z:=h.2 z hz hA (by
 by_cases h0:z=0
 · exact .inl h0
 · exact .inr (hT.all z hz (by have:=(isSt_iff.1 hz).1; omega)))
theorem stepS_whole {S:List St} (hT:Tame S) {A:Nat→Bool} {L:List (Int × (Nat→Bool))} (hW:WB S A 0) (hL:KeptL S A L):WB S (stepS S A L) 0:=by
 have hno0:∀ c,¬ cIn S 0 c=true:=fun c hc=>by have:=cIn_range hc; omega
 -- a reach is there behind the step
 have hreach:∀ p ∈ L,hasS (stepS S A L) p.1=true:=fun p hp=>stepS_has.2 (.inl ⟨(hL.act p hp).1,fun p' hp' hin=>by
  have:=hL.same hp hp' (.inl (.inr hin))
  rw [this] at hin
  exact cIn_self hin⟩)
 refine ⟨stepS_has.2 (.inl ⟨hW.1,fun p _=>hno0 p.1⟩),fun z hz hzA _=>?_⟩
 have hz0:=(isSt_iff.1 hz).1
 rcases stepS_has.1 hzA with ⟨hA,hout⟩ | ⟨p,hp,hE⟩
 · obtain ⟨w1,w2,w3,w4⟩:=hW.at0 hT hz hA
   -- of what is no reach the children are as they were
   have hkid:(∀ p ∈ L,¬ z=p.1)→∀ k ∈ kids S z,hasS (stepS S A L) k=true ↔ hasS A k=true:=fun hne k hk=>by
    obtain ⟨k1,k2,k3,k4,k5⟩:=hT.kid_up hz0 hk
    have hnin:∀ p ∈ L,¬ cIn S k p.1=true:=fun p hp hin=>by
     have h1:=up_sub hin
     rw [k2] at h1
     rcases h1 with h1 | h1
     · exact hne p hp h1
     · exact hout p hp h1
    rw [stepS_has]
    constructor
    · rintro (h | ⟨p,hp,h⟩)
      · exact h.1
      · exact (hnin p hp ((hL.win p hp).in_ k h)).elim
    · exact fun h=>.inl ⟨h,hnin⟩
   refine ⟨w1,fun hne=>?_,fun h2=>?_,fun h3 k hk=>?_⟩
   · have hu:cIn S z (cUp S z)=true:=(cIn_iff _ _ _).2 ⟨hT.up z hz (by omega),.inl rfl⟩
     exact stepS_has.2 (.inl ⟨w2 hne,fun p hp hin=>hout p hp (cIn_tr hu hin)⟩)
   · by_cases hex:∃ p ∈ L,z=p.1
     · obtain ⟨p,hp,he⟩:=hex
       obtain ⟨q,hq,hqE,hu⟩:=(hL.win p hp).top
       refine ⟨q,by rw [he]; exact hq,stepS_has.2 (.inr ⟨p,hp,hqE⟩),fun k hk hkA=>?_⟩
       obtain ⟨k1,k2,k3,k4,k5⟩:=hT.kid_up hz0 hk
       rcases stepS_has.1 hkA with ⟨_,h5⟩ | ⟨p',hp',h5⟩
       · exact (h5 p hp (he ▸ k5)).elim
       · have h6:=up_sub ((hL.win p' hp').in_ k h5)
         rw [k2] at h6
         have h7:=hL.same hp hp' (.inl (he ▸ h6))
         rw [← h7] at h5
         exact hu k (by rw [← he]; exact hk) h5
     · have hne:∀ p ∈ L,¬ z=p.1:=fun p hp he=>hex ⟨p,hp,he⟩
       obtain ⟨q,hq,hqA,hu⟩:=w3 h2
       exact ⟨q,hq,(hkid hne q hq).2 hqA,fun k hk hkA=>hu k hk ((hkid hne k hk).1 hkA)⟩
   · exact (hkid (fun p hp he=>by have:=(hL.act p hp).2; rw [← he] at this; omega) k hk).2 (w4 h3 k hk)
 · have hw:=hL.win p hp
   have hzp:=hw.in_ z hE
   refine ⟨hw.hi z hE,fun hne=>?_,fun h2=>?_,fun h3 k hk=>stepS_has.2 (.inr ⟨p,hp,hw.three z hE h3 k hk⟩)⟩
   · by_cases he:cUp S z=p.1
     · rw [he]
       exact hreach p hp
     · exact stepS_has.2 (.inr ⟨p,hp,hw.up z hE he⟩)
   · obtain ⟨q,hq,hqE,hu⟩:=hw.two z hE h2
     refine ⟨q,hq,stepS_has.2 (.inr ⟨p,hp,hqE⟩),fun k hk hkA=>?_⟩
     obtain ⟨k1,k2,k3,k4,k5⟩:=hT.kid_up hz0 hk
     have hkp:=cIn_tr k5 hzp
     rcases stepS_has.1 hkA with ⟨_,h5⟩ | ⟨p',hp',h5⟩
     · exact (h5 p hp hkp).elim
     · have hkp':=(hL.win p' hp').in_ k h5
       have h7:p=p':=by
        rcases cmp (.inr hkp) (.inr hkp') with h8 | h8 | h8
        · exact hL.same hp hp' (.inl (.inl h8))
        · exact hL.same hp hp' (.inl (.inr h8))
        · exact hL.same hp hp' (.inr (.inr h8))
       rw [← h7] at h5
       exact hu k hk h5
theorem reach_part {S:List St} (hT:Tame S) {A:Nat→Bool} (hW:WB S A 0) {a b:Int} (ha:hasS A a=true) (hak:(stAt S a).kind=2) (hb:hasS A b=true) (hbk:(stAt S b).kind=2) (hsa:isSt S a=true) (hsb:isSt S b=true)
 (hc:∀ y,isSt S y=true→hasS A y=true→cIn S y a=true→cIn S y b=true→False):¬ Sub S a b∧¬ Sub S b a:=by
 have hk:∀ c,isSt S c=true→hasS A c=true→(stAt S c).kind=2→∃ q,isSt S q=true∧hasS A q=true∧cIn S q c=true:=fun c hs hA h2=>by
  obtain ⟨q,hq,hqA,_⟩:=(hW.at0 hT hs hA).2.2.1 h2
  obtain ⟨q1,q2,q3,q4,q5⟩:=hT.kid_up (isSt_iff.1 hs).1 hq
  exact ⟨q,q1,hqA,q5⟩
 constructor
 · intro hs
   obtain ⟨q,q1,q2,q3⟩:=hk a hsa ha hak
   exact hc q q1 q2 q3 (by rcases hs with rfl | hs; exact q3; exact cIn_tr q3 hs)
 · intro hs
   obtain ⟨q,q1,q2,q3⟩:=hk b hsb hb hbk
   exact hc q q1 q2 (by rcases hs with rfl | hs; exact q3; exact cIn_tr q3 hs) q3
theorem WB.above {S:List St} (hT:Tame S) {A:Nat→Bool} (hW:WB S A 0):∀ (n:Nat) (z c:Int),z.toNat≤n→hasS A z=true→cIn S z c=true→hasS A c=true
 | 0,z,c,hn,_,hc=>by have:=cIn_range hc; omega
 | n+1,z,c,hn,hA,hc=>by
  have hz:=(cIn_range hc).2.2
  have hne:z ≠ 0:=by have:=cIn_range hc; omega
  have h1:=(hW.at0 hT hz hA).2.1 hne
  have:=(cUp_pos ((cIn_iff _ _ _).1 hc).1).2.2
  rcases up_sub hc with h2 | h2
  · rw [← h2]; exact h1
  · exact WB.above hT hW n (cUp S z) c (by omega) h1 h2
def leafK (S:List St) (z:Int):Bool:=decide ((stAt S z).kind=1) || decide ((stAt S z).kind=4)
theorem WB.leaf_in {S:List St} (hT:Tame S) (hK:∀ z,isSt S z=true→histB (stAt S z).kind=false→(stAt S z).kind=2 ∨ (stAt S z).kind=3 ∨ leafK S z=true) {A:Nat→Bool} (hW:WB S A 0):∀ (n:Nat) (z:Int),S.length - z.toNat≤n→isSt S z=true→hasS A z=true→∃ x,isSt S x=true∧hasS A x=true∧leafK S x=true∧Sub S x z
 | 0,z,hn,hz,_=>by have:=isSt_iff.1 hz; omega
 | n+1,z,hn,hz,hA=>by
  obtain ⟨w1,w2,w3,w4⟩:=hW.at0 hT hz hA
  have hz0:=(isSt_iff.1 hz).1
  have down:∀ q ∈ kids S z,hasS A q=true→∃ x,isSt S x=true∧hasS A x=true∧leafK S x=true∧Sub S x z:=fun q hq hqA=>by
   obtain ⟨q1,q2,q3,q4,q5⟩:=hT.kid_up hz0 hq
   obtain ⟨x,x1,x2,x3,x4⟩:=WB.leaf_in hT hK hW n q (by have:=isSt_iff.1 q1; omega) q1 hqA
   exact ⟨x,x1,x2,x3,x4.trans (.inr q5)⟩
  rcases hK z hz w1 with h | h | h
  · obtain ⟨q,hq,hqA,_⟩:=w3 h
    exact down q hq hqA
  · obtain ⟨q,hq⟩:=List.exists_mem_of_ne_nil _ (hT.kid z hz (.inr h))
    exact down q hq (w4 h q hq)
  · exact ⟨z,hz,hA,h,.inl rfl⟩
def pastP (S:List St) (A:Nat→Bool) (h:Int):Nat→Bool:=fun k =>
 if (stAt S h).kind=5 then A k && (kids S (stAt S h).par).contains (k:Int) else A k && (leafK S (k:Int) && cIn S (k:Int) (stAt S h).par)
theorem memb_iff {S:List St} {P:Nat→Bool} {x:Int}:x ∈ memb S P ↔ isSt S x=true∧P x.toNat=true:=by
 unfold memb
 rw [List.mem_map]
 constructor
 · rintro ⟨k,hk,rfl⟩
   obtain ⟨h1,h2⟩:=List.mem_filter.1 hk
   have:=List.mem_range.1 h1
   exact ⟨isSt_iff.2 ⟨by omega,by omega⟩,h2⟩
 · rintro ⟨h1,h2⟩
   have:=isSt_iff.1 h1
   exact ⟨x.toNat,List.mem_filter.2 ⟨List.mem_range.2 (by omega),h2⟩,by omega⟩
theorem has_nat {A:Nat→Bool} {x:Int} (h0:0≤x):A x.toNat=hasS A x:=by
 unfold hasS
 simp [h0]

def cloP (S:List St) (R:List Int) (p:Int):Nat→Bool:=fun k=>R.any fun x=>decide (x=(k:Int)) || (cIn S x (k:Int) && decide (p≤(k:Int)))
theorem clo_has {S:List St} {R:List Int} {p y:Int} (hy:0≤y):hasS (cloP S R p) y=true ↔ ∃ x ∈ R,x=y ∨ (cIn S x y=true∧p≤y):=by
 obtain ⟨k,rfl⟩:∃ k:Nat,y=(k:Int):=⟨y.toNat,by omega⟩
 rw [hasS_nat]
 unfold cloP
 simp
structure SndR (S:List St) (s:Int) (R:List Int):Prop where
 real:∀ x ∈ R,isSt S x=true∧histB (stAt S x).kind=false∧cIn S x (stAt S s).par=true
 kid:(stAt S s).kind=5→∀ x ∈ R,(stAt S x).par=(stAt S s).par
 leaf:(stAt S s).kind=6→∀ x ∈ R,leafK S x=true
 some:R ≠ []
 two:∀ y,isSt S y=true→(stAt S s).par≤y→hasS (cloP S R (stAt S s).par) y=true→((stAt S s).kind=5→y=(stAt S s).par)→(stAt S y).kind=2→∃ q ∈ kids S y,hasS (cloP S R (stAt S s).par) q=true∧∀ k ∈ kids S y,hasS (cloP S R (stAt S s).par) k=true→k=q
 three:∀ y,isSt S y=true→(stAt S s).par≤y→hasS (cloP S R (stAt S s).par) y=true→((stAt S s).kind=5→y=(stAt S s).par)→(stAt S y).kind=3→∀ k ∈ kids S y,hasS (cloP S R (stAt S s).par) k=true
def SndH (S:List St) (H:List Nat):Prop:=∀ s,isSt S s=true→histB (stAt S s).kind=true→histAt H s ≠ 0→SndR S s (ofS S H s)
theorem histB_56 {k:Int} (h:histB k=true):k=5 ∨ k=6:=by
 unfold histB at h
 simp only [Bool.or_eq_true,decide_eq_true_eq] at h
 exact h
theorem leaf_no {S:List St} (hT:Tame S) {x y:Int} (hl:leafK S y=true):¬ cIn S x y=true:=fun hin=>by
 unfold leafK at hl
 simp only [Bool.or_eq_true,decide_eq_true_eq] at hl
 have:=kind_in hT hin
 omega
theorem kid_par {S:List St} (hT:Tame S) {x p:Int} (hx:isSt S x=true) (h:cIn S x p=true) (hp:(stAt S x).par=p):cUp S x=p:=by
 rw [← hT.par x hx]
 exact hp
theorem of_zero {S:List St} (hT:Tame S) {H:List Nat} {s:Int} (hs:isSt S s=true) (hh:histB (stAt S s).kind=true) (h0:histAt H s=0):∃ t,ofS S H s=[t]∧histB (stAt S t).kind=false∧cIn S t (stAt S s).par=true:=by
 obtain ⟨t,h1,h2,h3,h4⟩:=hT.ini5 s hs hh
 refine ⟨t,?_,h3,h4⟩
 unfold ofS
 rw [if_neg (by rw [hs]; simp),if_neg (by rw [hh]; simp),if_neg (by rw [h0]; simp),h1]
theorem hok_of_snd {S:List St} (hT:Tame S) {H:List Nat} (h:SndH S H):HOk S H:=by
 refine ⟨fun s hs hh x hx=>?_,fun s hs hh x hx y hy hin=>?_,fun s hs hh c hc hcs x hx y hy hxc hyc q hq hxq=>?_,fun s hs hh=>?_⟩
 · by_cases h0:histAt H s=0
   · obtain ⟨t,h1,h2,h3⟩:=of_zero hT hs hh h0
     rw [h1] at hx
     rw [List.mem_singleton.1 hx]
     exact ⟨h2,h3⟩
   · exact ((h s hs hh h0).real x hx).2
 · by_cases h0:histAt H s=0
   · obtain ⟨t,h1,h2,h3⟩:=of_zero hT hs hh h0
     rw [h1] at hx hy
     rw [List.mem_singleton.1 hx,List.mem_singleton.1 hy] at hin
     exact cIn_self hin
   · have hs':=h s hs hh h0
     obtain ⟨x1,x2,x3⟩:=hs'.real x hx
     obtain ⟨y1,y2,y3⟩:=hs'.real y hy
     rcases histB_56 hh with h5 | h6
     · exact one_child (cIn_range x3).1 (kid_par hT x1 x3 (hs'.kid h5 x hx)) (kid_par hT y1 y3 (hs'.kid h5 y hy)) hin
     · exact leaf_no hT (hs'.leaf h6 y hy) hin
 · by_cases h0:histAt H s=0
   · obtain ⟨t,h1,h2,h3⟩:=of_zero hT hs hh h0
     rw [h1] at hx hy
     rw [List.mem_singleton.1 hy,← List.mem_singleton.1 hx]
     exact hxq
   · have hs':=h s hs hh h0
     obtain ⟨x1,x2,x3⟩:=hs'.real x hx
     obtain ⟨y1,y2,y3⟩:=hs'.real y hy
     have hc0:=(cIn_range hxc).1
     have hcst:isSt S c=true:=isSt_iff.2 ⟨hc0,by have:=cIn_range hxc; have:=isSt_iff.1 this.2.2; omega⟩
     have hpc:(stAt S s).par≤c:=by rcases hcs with rfl | hcs; omega; have:=cIn_range hcs; omega
     have hclo:hasS (cloP S (ofS S H s) (stAt S s).par) c=true:=(clo_has hc0).2 ⟨x,hx,.inr ⟨hxc,hpc⟩⟩
     have h5:(stAt S s).kind=5→c=(stAt S s).par:=fun h5=>by
      have hu:=kid_par hT x1 x3 (hs'.kid h5 x hx)
      rcases hcs with he | hcs
      · exact he
      · have:=up_sub hxc
        rw [hu] at this
        exact (sub_irr this hcs).elim
     obtain ⟨q0,hq0,_,hu⟩:=hs'.two c hcst hpc hclo h5 hc
     have up:∀ z ∈ ofS S H s,∀ k ∈ kids S c,Sub S z k→hasS (cloP S (ofS S H s) (stAt S s).par) k=true:=fun z hz k hk hsz=>by
      obtain ⟨k1,k2,k3,k4,k5⟩:=hT.kid_up hc0 hk
      refine (clo_has (by omega)).2 ⟨z,hz,?_⟩
      rcases hsz with he | hin
      · exact .inl he
      · exact .inr ⟨hin,by omega⟩
     obtain ⟨q',hq',hyq'⟩:=kid_of hT hyc y2
     rw [hu q hq (up x hx q hq hxq),← hu q' hq' (up y hy q' hq' hyq')]
     exact hyq'
 · by_cases h0:histAt H s=0
   · obtain ⟨t,h1,h2,h3⟩:=of_zero hT hs hh h0
     rw [h1]
     simp
   · exact (h s hs hh h0).some
theorem snd_past {S:List St} (hT:Tame S) (hK:∀ z,isSt S z=true→histB (stAt S z).kind=false→(stAt S z).kind=2 ∨ (stAt S z).kind=3 ∨ leafK S z=true) {A:Nat→Bool} (hW:WB S A 0) {s:Int} (hs:isSt S s=true) (hh:histB (stAt S s).kind=true)
 (hp:isSt S (stAt S s).par=true) (hpk:(stAt S (stAt S s).par).kind=2 ∨ (stAt S (stAt S s).par).kind=3) (hA:hasS A (stAt S s).par=true):SndR S s (memb S (pastP S A s)):=by
 have hp0:=(isSt_iff.1 hp).1
 have mem5:(stAt S s).kind=5→∀ x,x ∈ memb S (pastP S A s) ↔ hasS A x=true∧x ∈ kids S (stAt S s).par:=fun h5 x=>by
  rw [memb_iff]
  constructor
  · rintro ⟨h1,h2⟩
    have h0:=(isSt_iff.1 h1).1
    unfold pastP at h2
    rw [if_pos h5] at h2
    simp only [Bool.and_eq_true] at h2
    rw [has_nat (A:=A) h0,show ((x.toNat:Nat):Int)=x by omega] at h2
    exact ⟨h2.1,by simpa using h2.2⟩
  · rintro ⟨h1,h2⟩
    obtain ⟨k1,k2,k3,k4,k5⟩:=hT.kid_up hp0 h2
    refine ⟨k1,?_⟩
    unfold pastP
    rw [if_pos h5,has_nat (A:=A) (by omega),h1,show ((x.toNat:Nat):Int)=x by omega]
    simpa using h2
 have mem6:(stAt S s).kind=6→∀ x,x ∈ memb S (pastP S A s) ↔ hasS A x=true∧leafK S x=true∧cIn S x (stAt S s).par=true:=fun h6 x=>by
  rw [memb_iff]
  constructor
  · rintro ⟨h1,h2⟩
    have h0:=(isSt_iff.1 h1).1
    unfold pastP at h2
    rw [if_neg (by omega)] at h2
    simp only [Bool.and_eq_true] at h2
    rw [has_nat (A:=A) h0,show ((x.toNat:Nat):Int)=x by omega] at h2
    exact ⟨h2.1,h2.2.1,h2.2.2⟩
  · rintro ⟨h1,h2,h3⟩
    refine ⟨(cIn_range h3).2.2,?_⟩
    have:=cIn_range h3
    unfold pastP
    rw [if_neg (by omega),has_nat (A:=A) (by omega),h1,show ((x.toNat:Nat):Int)=x by omega,h2,h3]
    rfl
 obtain ⟨w1,w2,w3,w4⟩:=hW.at0 hT hp hA
 -- all that is told is there
 have there:∀ x ∈ memb S (pastP S A s),hasS A x=true∧cIn S x (stAt S s).par=true:=fun x hx=>by
  rcases histB_56 hh with h5 | h6
  · obtain ⟨h1,h2⟩:=(mem5 h5 x).1 hx
    exact ⟨h1,(hT.kid_up hp0 h2).2.2.2.2⟩
  · obtain ⟨h1,h2,h3⟩:=(mem6 h6 x).1 hx
    exact ⟨h1,h3⟩
 -- what is above it from p on is there,in p or p itself
 have cloA:∀ y,0≤y→hasS (cloP S (memb S (pastP S A s)) (stAt S s).par) y=true→hasS A y=true∧Sub S y (stAt S s).par:=fun y hy hc=>by
  obtain ⟨x,hx,h1⟩:=(clo_has hy).1 hc
  obtain ⟨h2,h3⟩:=there x hx
  rcases h1 with rfl | ⟨h1,h4⟩
  · exact ⟨h2,.inr h3⟩
  · refine ⟨WB.above hT hW _ x y (Nat.le_refl _) h2 h1,?_⟩
    rcases cmp (.inr h1) (.inr h3) with he | he | he
    · exact .inl he
    · exact .inr he
    · have:=cIn_range he
      omega
 -- a child that is there is among them
 have kidA:∀ y,isSt S y=true→Sub S y (stAt S s).par→((stAt S s).kind=5→y=(stAt S s).par)→∀ k ∈ kids S y,hasS A k=true→hasS (cloP S (memb S (pastP S A s)) (stAt S s).par) k=true:=fun y hy hyp h5 k hk hkA=>by
  obtain ⟨k1,k2,k3,k4,k5⟩:=hT.kid_up (isSt_iff.1 hy).1 hk
  have hk0:=(isSt_iff.1 k1).1
  rw [clo_has hk0]
  rcases histB_56 hh with h5' | h6
  · exact ⟨k,(mem5 h5' k).2 ⟨hkA,by rw [← h5 h5']; exact hk⟩,.inl rfl⟩
  · obtain ⟨x,x1,x2,x3,x4⟩:=WB.leaf_in hT hK hW _ k (Nat.le_refl _) k1 hkA
    have hkp:cIn S k (stAt S s).par=true:=by rcases hyp with rfl | hyp; exact k5; exact cIn_tr k5 hyp
    refine ⟨x,(mem6 h6 x).2 ⟨x2,x3,x4.in_ hkp⟩,?_⟩
    rcases x4 with he | x4
    · exact .inl he
    · exact .inr ⟨x4,by have:=cIn_range hkp; omega⟩
 refine ⟨fun x hx=>?_,fun h5 x hx=>?_,fun h6 x hx=>((mem6 h6 x).1 hx).2.1,?_,fun y hy hpy hc h5 h2=>?_,fun y hy hpy hc h5 h3 k hk=>?_⟩
 · obtain ⟨h1,h2⟩:=there x hx
   have hx1:=(cIn_range h2).2.2
   exact ⟨hx1,(hW.at0 hT hx1 h1).1,h2⟩
 · exact (kids_mem.1 ((mem5 h5 x).1 hx).2).2.1
 · have hex:∃ q ∈ kids S (stAt S s).par,hasS A q=true:=by
    rcases hpk with hk | hk
    · obtain ⟨q,hq,hqA,_⟩:=w3 hk
      exact ⟨q,hq,hqA⟩
    · obtain ⟨q,hq⟩:=List.exists_mem_of_ne_nil _ (hT.kid _ hp (.inr hk))
      exact ⟨q,hq,w4 hk q hq⟩
   obtain ⟨q,hq,hqA⟩:=hex
   obtain ⟨q1,_⟩:=hT.kid_up hp0 hq
   have:=kidA _ hp (.inl rfl) (fun _=>rfl) q hq hqA
   obtain ⟨x,hx,_⟩:=(clo_has (isSt_iff.1 q1).1).1 this
   intro he
   rw [he] at hx
   cases hx
 · obtain ⟨hyA,hyp⟩:=cloA y (isSt_iff.1 hy).1 hc
   obtain ⟨q,hq,hqA,hu⟩:=(hW.at0 hT hy hyA).2.2.1 h2
   refine ⟨q,hq,kidA y hy hyp h5 q hq hqA,fun k hk hkc=>hu k hk ?_⟩
   obtain ⟨k1,_⟩:=hT.kid_up (isSt_iff.1 hy).1 hk
   exact (cloA k (isSt_iff.1 k1).1 hkc).1
 · obtain ⟨hyA,hyp⟩:=cloA y (isSt_iff.1 hy).1 hc
   exact kidA y hy hyp h5 k hk ((hW.at0 hT hy hyA).2.2.2 h3 k hk)
theorem snd_step {S:List St} (hT:Tame S) (hK:∀ z,isSt S z=true→histB (stAt S z).kind=false→(stAt S z).kind=2 ∨ (stAt S z).kind=3 ∨ leafK S z=true) {A:Nat→Bool} {H H':List Nat} (hW:WB S A 0) (hH:SndH S H)
 (hpar:∀ s,isSt S s=true→histB (stAt S s).kind=true→isSt S (stAt S s).par=true∧((stAt S (stAt S s).par).kind=2 ∨ (stAt S (stAt S s).par).kind=3))
 (h:∀ s,isSt S s=true→histB (stAt S s).kind=true→histAt H' s=histAt H s ∨ (hasS A (stAt S s).par=true∧ofS S H' s=memb S (pastP S A s))):SndH S H':=fun s hs hh h0=>by
 rcases h s hs hh with he | ⟨hA,he⟩
 · have:ofS S H' s=ofS S H s:=by unfold ofS; rw [he]
   rw [this]
   exact hH s hs hh (by rw [← he]; exact h0)
 · rw [he]
   exact snd_past hT hK hW hs hh (hpar s hs hh).1 (hpar s hs hh).2 hA
end Go.Proofs.YtmhkpjcdkjnlnaaGreatDoor
