/- What is entered is whole, plainly: below a state, and up to another one. No program in this text. -/
import Derived.Test.YtmhkpjcdkjnlnaaGreatDoorFWSpure
namespace Go.Proofs.YtmhkpjcdkjnlnaaGreatDoor
set_option linter.unusedVariables false

def hasS (A:Nat→Bool) (s:Int):Bool:=decide (0≤s) && A s.toNat
def Sub (S:List St) (y s:Int):Prop:=y=s ∨ cIn S y s=true
theorem hasS_add {A:Nat→Bool} {s y:Int} (hs:0≤s):hasS (addS A s) y=(hasS A y || decide (y=s)):=by
 unfold hasS addS
 by_cases h:0≤y
 · have e:((y.toNat:Nat):Int)=y:=by omega
   simp [h,e]
 · have:¬ y=s:=by omega
   simp [h,this]
theorem hasS_le {A B:Nat→Bool} (h:Le A B) {s:Int} (hs:hasS A s=true):hasS B s=true:=by
 unfold hasS at hs ⊢
 simp only [Bool.and_eq_true,decide_eq_true_eq] at hs ⊢
 exact ⟨hs.1,h _ hs.2⟩
theorem hasS_nat (A:Nat→Bool) (k:Nat):hasS A (k:Int)=A k:=by unfold hasS; simp
theorem cIn_tr {S:List St} {a b c:Int} (h:cIn S a b=true) (k:cIn S b c=true):cIn S a c=true:=cIn_trans a.toNat a b c (Nat.le_refl _) h k
theorem Sub.trans {S:List St} {a b c:Int} (h:Sub S a b) (k:Sub S b c):Sub S a c:=by
 rcases h with rfl | h
 · exact k
 · rcases k with rfl | k
   · exact .inr h
   · exact .inr (cIn_tr h k)
theorem cIn_self {S:List St} {a:Int} (h:cIn S a a=true):False:=by have:=cIn_range h; omega
theorem line {S:List St} {a b:Int}:∀ (n:Nat) (x:Int),x.toNat≤n→cIn S x a=true→cIn S x b=true→a=b ∨ cIn S a b=true ∨ cIn S b a=true:=by
 intro n
 induction n with
 | zero=>intro x hn h; have:=cIn_range h; omega
 | succ n ih =>
  intro x hn h k
  obtain ⟨h1,h2⟩:=(cIn_iff _ _ _).1 h
  obtain ⟨_,k2⟩:=(cIn_iff _ _ _).1 k
  have:=(cUp_pos h1).2.2
  rcases h2 with h2 | h2
  · rcases k2 with k2 | k2
    · exact .inl (h2.symm.trans k2)
    · exact .inr (.inl (by rw [← h2]; exact k2))
  · rcases k2 with k2 | k2
    · exact .inr (.inr (by rw [← k2]; exact h2))
    · exact ih (cUp S x) (by omega) h2 k2
theorem up_in {S:List St} {c s:Int} (h:cUp S c=s) (hs:0≤s):cIn S c s=true:=(cIn_iff _ _ _).2 ⟨by omega,.inl h⟩
theorem one_child {S:List St} {s c d:Int} (hs:0≤s) (hc:cUp S c=s) (hd:cUp S d=s) (h:cIn S c d=true):False:=by
 obtain ⟨h1,h2⟩:=(cIn_iff _ _ _).1 h
 have hds:=up_in hd hs
 have:=cIn_range hds
 rcases h2 with h2 | h2
 · omega
 · rw [hc] at h2; have:=cIn_range h2; omega
theorem sub_one {S:List St} {s c d x:Int} (hs:0≤s) (hc:cUp S c=s) (hd:cUp S d=s) (h:Sub S x c) (k:Sub S x d):c=d:=by
 rcases h with rfl | h
 · rcases k with k | k
   · exact k
   · exact (one_child hs hc hd k).elim
 · rcases k with rfl | k
   · exact (one_child hs hd hc h).elim
   · rcases line x.toNat x (Nat.le_refl _) h k with h | h | h
     · exact h
     · exact (one_child hs hc hd h).elim
     · exact (one_child hs hd hc h).elim
theorem kid_sub {S:List St} (hT:Tame S) {x k:Int} (hx:isSt S x=true) (h:k ∈ kids S x):cIn S k x=true:=(hT.kid_up (isSt_iff.1 hx).1 h).2.2.2.2
theorem some_of {S:List St} {A:Nat→Bool} {k y:Int} (hy:isSt S y=true) (hA:hasS A y=true) (h:cIn S y k=true):someD S A k=true:=by
 obtain ⟨j,rfl,hj⟩:=isSt_nat' hy
 unfold someD
 rw [List.any_eq_true]
 exact ⟨j,List.mem_range.2 hj,by rw [hasS_nat] at hA; rw [hA,h]; rfl⟩
where
 isSt_nat' {S:List St} {s:Int} (h:isSt S s=true):∃ k:Nat,s=(k:Int)∧k < S.length:=by
  have:=isSt_iff.1 h
  exact ⟨s.toNat,by omega,by omega⟩
theorem some_not {S:List St} {A:Nat→Bool} {k:Int} (h:∀ y,isSt S y=true→cIn S y k=true→hasS A y=false):someD S A k=false:=by
 unfold someD
 rw [List.any_eq_false]
 intro x hx
 have hlt:=List.mem_range.1 hx
 intro hc
 simp only [Bool.and_eq_true] at hc
 have:=h (x:Int) (isSt_iff.2 ⟨by omega,by omega⟩) hc.2
 rw [hasS_nat,hc.1] at this
 cases this
theorem dB_leaf {S:List St} {H:List Nat} (f:Nat) {A:Nat→Bool} {s:Int} (hs:isSt S s=true) (hh:histB (stAt S s).kind=false) (h2:(stAt S s).kind ≠ 2) (h3:(stAt S s).kind ≠ 3):dB S H (f+1) A s=addS A s:=by
 rw [dB,if_neg (by rw [hs]; simp),if_neg (by rw [hh]; simp),if_neg h2,if_neg h3]
def Fr (y:Nat) (G:(Nat→Bool)→(Nat→Bool)):Prop:=∀ A,G A y=A y
theorem fr_add {y:Nat} {s:Int} (h:¬ (y:Int)=s):Fr y (fun A=>addS A s):=fun A=>by simp [addS,h]
theorem fr_comp {y:Nat} {g h:(Nat→Bool)→(Nat→Bool)} (hg:Fr y g) (hh:Fr y h):Fr y (fun A=>h (g A)):=fun A=>(hh (g A)).trans (hg A)
theorem fr_fold {y:Nat} {α:Type} (G:(Nat→Bool)→α→(Nat→Bool)):∀ (L:List α),(∀ x ∈ L,Fr y fun A=>G A x)→Fr y fun A=>L.foldl G A
 | [],_=>fun _=>rfl
 | x :: L,h=>fr_comp (h x (List.mem_cons_self ..)) (fr_fold G L fun z hz=>h z (List.mem_cons_of_mem _ hz))
section
variable {S:List St} {F:(Nat→Bool)→Int→(Nat→Bool)} {y:Nat}
theorem fr_kids (p:Int) (h:∀ k ∈ kids S p,Fr y fun A=>F A k):Fr y fun A=>kidsW S (someD S) F p A:=fr_fold _ _ fun k hk A=>by
 show kidStep (someD S) F A k y=A y
 unfold kidStep
 split
 · rfl
 · exact h k hk A
theorem fr_up (top:Int):∀ L:List Int,(∀ p ∈ L.takeWhile (fun x=>decide (x ≠ top)),¬ (y:Int)=p∧∀ k ∈ kids S p,Fr y fun A=>F A k)→Fr y fun A=>upW S (someD S) addS F top L A
 | [],_=>fun _=>rfl
 | p :: L,h=>fun A=>by
  show upW S (someD S) addS F top (p :: L) A y=A y
  rw [upW]
  by_cases he:p=top
  · rw [if_pos he]
  · rw [if_neg he]
    rw [List.takeWhile_cons,if_pos (by simpa using he)] at h
    obtain ⟨h1,h2⟩:=h p (List.mem_cons_self ..)
    have hr:=fr_up top L (fun q hq=>h q (List.mem_cons_of_mem _ hq)) (upStep S (someD S) addS F A p)
    refine hr.trans ?_
    unfold upStep
    split
    · exact (fr_kids p h2 (addS A p)).trans (fr_add h1 A)
    · exact fr_add h1 A
end
theorem all_one {S:List St} {F:(Nat→Bool)→Int→(Nat→Bool)} (t top:Int) (A:Nat→Bool):allW S (someD S) addS F [t] top A=upW S (someD S) addS F top (ups S t) (F A t):=rfl
theorem dB_frame {S:List St} (hT:Tame S) {H:List Nat} {y:Nat}:∀ (f:Nat) (s:Int),isSt S s=true→histB (stAt S s).kind=false→¬ Sub S (y:Int) s→Fr y fun A=>dB S H f A s
 | 0,_,_,_,_=>fun _=>rfl
 | f+1,s,hs,hh,hy=>fun A=>by
  show dB S H (f+1) A s y=A y
  have hys:¬ (y:Int)=s:=fun h=>hy (.inl h)
  have hkids:∀ p,isSt S p=true→Sub S p s→∀ k ∈ kids S p,Fr y fun A=>dB S H f A k:=fun p hp hsub k hk=>by
   obtain ⟨c1,c2,c3,c4,c5⟩:=hT.kid_up (isSt_iff.1 hp).1 hk
   refine dB_frame hT f k c1 c3 fun h=>hy ?_
   exact h.trans (Sub.trans (.inr c5) hsub)
  rw [dB,if_neg (by rw [hs]; simp),if_neg (by rw [hh]; simp)]
  split
  · rename_i h2
    obtain ⟨t,h1,t1,t2,t3⟩:=hT.ini2 s hs h2
    rw [h1,all_one]
    have hu:=fr_up (S:=S) (F:=dB S H f) (y:=y) s (ups S t) (fun p hp=>by
     have hps:=ups_ahead t3 p hp
     obtain ⟨p1,p2,p3⟩:=up_state hT (List.takeWhile_subset _ hp)
     exact ⟨fun h=>hy (by rw [h]; exact .inr hps),hkids p p1 (.inr hps)⟩) (dB S H f (addS A s) t)
    refine hu.trans ?_
    exact (dB_frame hT f t t1 t2 (fun h=>hy (h.trans (.inr t3))) (addS A s)).trans (fr_add hys A)
  · split
    · exact (fr_kids s (hkids s hs (.inl rfl)) (addS A s)).trans (fr_add hys A)
    · exact fr_add hys A

section
variable (S:List St) (X:List Int) (r:Int)
end
section
variable {S:List St} {X:List Int} {r:Int}
end

section
variable {S:List St} {X:List Int} {r:Int}
end

section
variable {S:List St} {H:List Nat} {r:Int} {l:List Int}
end


end Go.Proofs.YtmhkpjcdkjnlnaaGreatDoor
