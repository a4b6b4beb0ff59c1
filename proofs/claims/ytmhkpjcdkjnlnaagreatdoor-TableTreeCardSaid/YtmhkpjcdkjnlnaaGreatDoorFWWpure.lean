/- What is entered by default for each state, as a table is made ready (from the last state on), plainly; that it is what layer 8 enters. No program in this text. -/
import Derived.Test.YtmhkpjcdkjnlnaaGreatDoorFWMsn
namespace Go.Proofs.YtmhkpjcdkjnlnaaGreatDoor
set_option linter.unusedVariables false

def orS (A B:Nat→Bool):Nat→Bool:=fun y=>A y || B y
def missW (S:List St) (T:Int→Nat→Bool) (p:Int) (L:Nat→Bool):Nat→Bool:=fun y=>(kids S p).any fun k=>!someD S L k && T k y
def upOne (S:List St) (T:Int→Nat→Bool) (p:Int) (L:Nat→Bool):Nat→Bool:=if (stAt S p).kind=3 then orS (addS L p) (missW S T p (addS L p)) else addS L p
def upT (S:List St) (T:Int→Nat→Bool) (s:Int):List Int→(Nat→Bool)→(Nat→Bool)
 | [],L=>L
 | p :: r,L=>if p=s then L else upT S T s r (upOne S T p L)
def defT (S:List St) (s:Int):Nat→Bool:=if histB (stAt S s).kind=true then fun _=>false else dB S [] (S.length+2) (fun _=>false) s
theorem orS_none (A:Nat→Bool):orS A (fun _=>false)=A:=by funext y; simp [orS]
theorem orS_assoc (A B C:Nat→Bool):orS (orS A B) C=orS A (orS B C):=by funext y; simp [orS,Bool.or_assoc]
theorem addS_orS (A B:Nat→Bool) (s:Int):addS (orS A B) s=orS A (addS B s):=by funext y; simp [orS,addS,Bool.or_assoc]
theorem addS_or (A:Nat→Bool) (s:Int):addS A s=orS A (addS (fun _=>false) s):=by funext y; simp [orS,addS]
theorem hasS_orS (A B:Nat→Bool) (y:Int):hasS (orS A B) y=(hasS A y || hasS B y):=by
 unfold hasS orS
 cases decide (0≤y) <;> simp
theorem good_nil {S:List St} (hT:Tame S):GoodH S []:=fun s hs hh x hx=>by
 obtain ⟨t,h1,h2,h3,h4⟩:=hT.ini5 s hs hh
 unfold ofS histAt at hx
 rw [if_neg (by rw [hs]; simp),if_neg (by rw [hh]; simp),if_neg (by simp),h1] at hx
 obtain rfl:=List.mem_singleton.1 hx
 exact ⟨h2,h3⟩
theorem kids_nodup (S:List St) (p:Int):(kids S p).Pairwise (fun a b=>a ≠ b):=by
 unfold kids kidsU
 rw [List.pairwise_map]
 have h:=List.Pairwise.filter (kidB S p) (List.nodup_range (n:=S.length))
 exact List.Pairwise.imp (S:=fun a b:Nat=>(a:Int) ≠ (b:Int)) (fun {a b} h e=>h (Int.ofNat_inj.1 e)) h
def NoIn (S:List St) (A:Nat→Bool) (s:Int):Prop:=∀ y,isSt S y=true→cIn S y s=true→hasS A y=false
theorem NoIn.orS {S:List St} {A B:Nat→Bool} {s:Int} (h:NoIn S A s) (k:NoIn S B s):NoIn S (orS A B) s:=fun y hy hi=>by rw [hasS_orS,h y hy hi,k y hy hi]; rfl
theorem NoIn.sub {S:List St} {A:Nat→Bool} {s k:Int} (h:NoIn S A s) (hk:cIn S k s=true):NoIn S A k:=fun y hy hi=>h y hy (cIn_tr hi hk)
theorem NoIn.self {S:List St} {s:Int} (h0:0≤s):NoIn S (addS (fun _=>false) s) s:=fun y hy hi=>by
 rw [hasS_add h0]
 have:¬ y=s:=by rintro rfl; exact cIn_self hi
 simp [this,hasS]
theorem NoIn.add {S:List St} {A:Nat→Bool} {s:Int} (h:NoIn S A s) (h0:0≤s):NoIn S (addS A s) s:=by
 rw [addS_or]; exact h.orS (NoIn.self h0)
theorem NoIn.some {S:List St} {A:Nat→Bool} {s:Int} (h:NoIn S A s):someD S A s=false:=some_not h
theorem someD_or (S:List St) (A B:Nat→Bool) (k:Int):someD S (orS A B) k=(someD S A k || someD S B k):=by
 unfold someD orS
 rw [Bool.eq_iff_iff]
 simp only [List.any_eq_true,Bool.and_eq_true,Bool.or_eq_true]
 constructor
 · rintro ⟨x,h1,h2 | h2,h3⟩
   · exact .inl ⟨x,h1,h2,h3⟩
   · exact .inr ⟨x,h1,h2,h3⟩
 · rintro (⟨x,h1,h2,h3⟩ | ⟨x,h1,h2,h3⟩)
   · exact ⟨x,h1,.inl h2,h3⟩
   · exact ⟨x,h1,.inr h2,h3⟩
theorem missW_or {S:List St} {T:Int→Nat→Bool} {p:Int} {A L:Nat→Bool} (h:∀ k ∈ kids S p,NoIn S A k):missW S T p (orS A L)=missW S T p L:=by
 funext y
 unfold missW
 rw [Bool.eq_iff_iff]
 simp only [List.any_eq_true,Bool.and_eq_true,Bool.not_eq_true']
 have e:∀ k ∈ kids S p,someD S (orS A L) k=someD S L k:=fun k hk=>by rw [someD_or,(h k hk).some,Bool.false_or]
 constructor
 · rintro ⟨k,hk,h1,h2⟩; exact ⟨k,hk,by rw [← e k hk]; exact h1,h2⟩
 · rintro ⟨k,hk,h1,h2⟩; exact ⟨k,hk,by rw [e k hk]; exact h1,h2⟩
theorem kids_fold {S:List St} {F:(Nat→Bool)→Int→(Nat→Bool)} {T:Int→Nat→Bool} {p:Int} (hp:0≤p)
 (hF:∀ k ∈ kids S p,∀ A,NoIn S A k→F A k=orS A (T k)) (hS:∀ k ∈ kids S p,∀ y:Nat,T k y=true→Sub S (y:Int) k) (hU:∀ k ∈ kids S p,cUp S k=p) :
 ∀ (L:List Int),(∀ k ∈ L,k ∈ kids S p)→L.Pairwise (fun a b=>a ≠ b)→∀ st,L.foldl (kidStep (someD S) F) st=orS st (fun y=>L.any fun k=>!someD S st k && T k y)
 | [],_,_,st=>by rw [List.foldl_nil]; funext y; simp [orS]
 | k :: L,hL,hN,st=>by
  rw [List.foldl_cons,kids_fold hp hF hS hU L (fun j hj=>hL j (List.mem_cons_of_mem _ hj)) (List.pairwise_cons.1 hN).2]
  have hk:=hL k (List.mem_cons_self ..)
  cases hsk:someD S st k with
  | true =>
   have e:kidStep (someD S) F st k=st:=by unfold kidStep; rw [if_pos hsk]
   rw [e]
   funext y
   simp [orS,hsk]
  | false =>
   have hno:NoIn S st k:=fun y hy hi=>by
    cases hh:hasS st y with
    | false=>rfl
    | true=>rw [some_of hy hh hi] at hsk; cases hsk
   have e:kidStep (someD S) F st k=orS st (T k):=by unfold kidStep; rw [if_neg (by rw [hsk]; simp),hF k hk st hno]
   rw [e]
   have hj:∀ j ∈ L,someD S (orS st (T k)) j=someD S st j:=fun j hj=>by
    have hjk:k ≠ j:=(List.pairwise_cons.1 hN).1 j hj
    have hjm:=hL j (List.mem_cons_of_mem _ hj)
    have:NoIn S (T k) j:=fun y hy hi=>by
     cases hh:hasS (T k) y with
     | false=>rfl
     | true =>
      exfalso
      have h0:=(isSt_iff.1 hy).1
      have hty:T k y.toNat=true:=by unfold hasS at hh; simpa [h0] using hh
      have hs:=hS k hk _ hty
      rw [show ((y.toNat:Nat):Int)=y by omega] at hs
      exact hjk (sub_one hp (hU k hk) (hU j hjm) hs (.inr hi))
    rw [someD_or,this.some,Bool.or_false]
   funext y
   have e2:(L.any fun j=>!someD S (orS st (T k)) j && T j y)=(L.any fun j=>!someD S st j && T j y):=by
    rw [Bool.eq_iff_iff]
    simp only [List.any_eq_true,Bool.and_eq_true,Bool.not_eq_true']
    constructor
    · rintro ⟨j,h1,h2,h3⟩; exact ⟨j,h1,by rw [← hj j h1]; exact h2,h3⟩
    · rintro ⟨j,h1,h2,h3⟩; exact ⟨j,h1,by rw [hj j h1]; exact h2,h3⟩
   simp only [orS] at e2 ⊢
   rw [List.any_cons,hsk,e2]
   simp [Bool.or_assoc]
theorem kids_all {S:List St} {F:(Nat→Bool)→Int→(Nat→Bool)} {T:Int→Nat→Bool} {p:Int} (hp:0≤p)
 (hF:∀ k ∈ kids S p,∀ A,NoIn S A k→F A k=orS A (T k)) (hS:∀ k ∈ kids S p,∀ y:Nat,T k y=true→Sub S (y:Int) k) (hU:∀ k ∈ kids S p,cUp S k=p) (st:Nat→Bool):kidsW S (someD S) F p st=orS st (missW S T p st) :=
 kids_fold hp hF hS hU _ (fun _ h=>h) (kids_nodup S p) st
theorem up_local {S:List St} (hT:Tame S) {F:(Nat→Bool)→Int→(Nat→Bool)} {T:Int→Nat→Bool} {s:Int}
 (hF:∀ k,isSt S k=true→histB (stAt S k).kind=false→cIn S k s=true→∀ A,NoIn S A k→F A k=orS A (T k)) (hS:∀ k,isSt S k=true→histB (stAt S k).kind=false→∀ y:Nat,T k y=true→Sub S (y:Int) k)
 {A:Nat→Bool} (hA:NoIn S A s):∀ (path:List Int) (L:Nat→Bool),(∀ p ∈ path.takeWhile (fun x=>decide (x ≠ s)),isSt S p=true∧cIn S p s=true) →
  upW S (someD S) addS F s path (orS A L)=orS A (upT S T s path L)
 | [],L,_=>rfl
 | p :: r,L,hp=>by
  rw [upW,upT]
  by_cases he:p=s
  · rw [if_pos he,if_pos he]
  · rw [if_neg he,if_neg he]
    rw [List.takeWhile_cons,if_pos (by simpa using he)] at hp
    obtain ⟨h1,h2⟩:=hp p (List.mem_cons_self ..)
    have h0:=(isSt_iff.1 h1).1
    have hku:∀ k ∈ kids S p,isSt S k=true∧histB (stAt S k).kind=false∧cUp S k=p∧cIn S k s=true:=fun k hk=>by
     obtain ⟨a1,a2,a3,a4,a5⟩:=hT.kid_up h0 hk
     exact ⟨a1,a3,a2,cIn_tr a5 h2⟩
    have e:upStep S (someD S) addS F (orS A L) p=orS A (upOne S T p L):=by
     unfold upStep upOne
     rw [addS_orS]
     split
     · rw [kids_all h0 (fun k hk=>hF k (hku k hk).1 (hku k hk).2.1 (hku k hk).2.2.2) (fun k hk=>hS k (hku k hk).1 (hku k hk).2.1) (fun k hk=>(hku k hk).2.2.1),
        missW_or (fun k hk=>hA.sub (hku k hk).2.2.2),orS_assoc]
     · rfl
    rw [e]
    exact up_local hT hF hS hA r _ fun q hq=>hp q (List.mem_cons_of_mem _ hq)
theorem dB_sub {S:List St} (hT:Tame S) (f:Nat) {s:Int} (hs:isSt S s=true) (hh:histB (stAt S s).kind=false) (y:Nat) (h:dB S [] f (fun _=>false) s y=true):Sub S (y:Int) s:=by
 by_cases hy:Sub S (y:Int) s
 · exact hy
 · have e:dB S [] f (fun _=>false) s y=false:=dB_frame hT (H:=[]) f s hs hh hy (fun _=>false)
   rw [h] at e
   cases e
theorem hasS_self {A:Nat→Bool} {s:Int} (h0:0≤s):hasS (addS A s) s=true:=by rw [hasS_add h0]; simp
theorem dB_local {S:List St} (hT:Tame S):∀ (f:Nat) (s:Int),isSt S s=true→histB (stAt S s).kind=false→rk S s < f→∀ A,NoIn S A s→dB S [] f A s=orS A (dB S [] f (fun _=>false) s)
 | 0,_,_,_,h,_,_=>by omega
 | f+1,s,hs,hh,hf,A,hA=>by
  have h0:=(isSt_iff.1 hs).1
  have hc:¬ isSt S s=false:=by rw [hs]; simp
  have hc2:¬ histB (stAt S s).kind=true:=by rw [hh]; simp
  have hF:∀ k,isSt S k=true→histB (stAt S k).kind=false→cIn S k s=true→∀ A,NoIn S A k→dB S [] f A k=orS A (dB S [] f (fun _=>false) k):=fun k h1 h2 h3 A h4=>dB_local hT f k h1 h2 (by have:=rk_in hh h2 h3; omega) A h4
  have hS:∀ k,isSt S k=true→histB (stAt S k).kind=false→∀ y:Nat,dB S [] f (fun _=>false) k y=true→Sub S (y:Int) k:=fun k h1 h2=>dB_sub hT f h1 h2
  rw [dB,if_neg hc,if_neg hc2,dB,if_neg hc,if_neg hc2]
  by_cases hk:(stAt S s).kind=2
  · rw [if_pos hk,if_pos hk]
    obtain ⟨t,e,t1,t2,t3⟩:=hT.ini2 s hs hk
    rw [e,all_one,all_one]
    have hpath:∀ p ∈ (ups S t).takeWhile (fun x=>decide (x ≠ s)),isSt S p=true∧cIn S p s=true:=fun p hp=>⟨(up_state hT (List.takeWhile_subset _ hp)).1,ups_ahead t3 p hp⟩
    rw [hF t t1 t2 t3 _ ((hA.add h0).sub t3),up_local hT hF hS (hA.add h0) _ _ hpath]
    rw [hF t t1 t2 t3 (addS (fun _=>false) s) ((NoIn.self h0).sub t3),up_local hT hF hS (NoIn.self h0) _ _ hpath]
    rw [addS_or A,orS_assoc]
  · rw [if_neg hk,if_neg hk]
    by_cases hk3:(stAt S s).kind=3
    · rw [if_pos hk3,if_pos hk3]
      have hku:∀ k ∈ kids S s,isSt S k=true∧histB (stAt S k).kind=false∧cUp S k=s∧cIn S k s=true:=fun k hk=>by
       obtain ⟨a1,a2,a3,a4,a5⟩:=hT.kid_up h0 hk
       exact ⟨a1,a3,a2,a5⟩
      have hK:=kids_all (S:=S) (F:=dB S [] f) (T:=fun k=>dB S [] f (fun _=>false) k) h0 (fun k hk=>hF k (hku k hk).1 (hku k hk).2.1 (hku k hk).2.2.2) (fun k hk=>hS k (hku k hk).1 (hku k hk).2.1) (fun k hk=>(hku k hk).2.2.1)
      rw [hK,hK,addS_or A,missW_or (fun k hk=>hA.sub (hku k hk).2.2.2),orS_assoc]
    · rw [if_neg hk3,if_neg hk3]
      exact addS_or A s
section
variable {S:List St} (hT:Tame S) {s:Int} (hs:isSt S s=true)
include hT hs
theorem defT_sub (hh:histB (stAt S s).kind=false) (y:Nat) (h:defT S s y=true):Sub S (y:Int) s:=by
 unfold defT at h
 rw [if_neg (by rw [hh]; simp)] at h
 exact dB_sub hT _ hs hh y h
theorem dB_defT (hh:histB (stAt S s).kind=false) {A:Nat→Bool} (hA:NoIn S A s) {f:Nat} (hf:rk S s < f):dB S [] f A s=orS A (defT S s):=by
 rw [dB_fuel hT (good_nil hT) f (S.length+2) s hf (rk_lt2 hs) A,dB_local hT _ s hs hh (rk_lt2 hs) A hA]
 unfold defT
 rw [if_neg (by rw [hh]; simp)]
omit hs in
theorem defT_kids {p:Int} (hp:isSt S p=true) (hh:histB (stAt S p).kind=false) {f:Nat} (hf:rk S p≤f) (st:Nat→Bool):kidsW S (someD S) (dB S [] f) p st=orS st (missW S (defT S) p st):=by
 have h0:=(isSt_iff.1 hp).1
 have hku:∀ k ∈ kids S p,isSt S k=true∧histB (stAt S k).kind=false∧cUp S k=p∧rk S k < f:=fun k hk=>by
  obtain ⟨a1,a2,a3,a4,a5⟩:=hT.kid_up h0 hk
  exact ⟨a1,a3,a2,by have:=rk_in hh a3 a5; omega⟩
 exact kids_all h0 (fun k hk A hA=>dB_defT hT (hku k hk).1 (hku k hk).2.1 hA (hku k hk).2.2.2) (fun k hk=>defT_sub hT (hku k hk).1 (hku k hk).2.1) (fun k hk=>(hku k hk).2.2.1) st
omit hT in
theorem defT_leaf (hh:histB (stAt S s).kind=false) (h2:(stAt S s).kind ≠ 2) (h3:(stAt S s).kind ≠ 3):defT S s=addS (fun _=>false) s:=by
 unfold defT
 rw [if_neg (by rw [hh]; simp)]
 exact dB_leaf (S.length+1) hs hh h2 h3
theorem defT_par (h3:(stAt S s).kind=3):defT S s=orS (addS (fun _=>false) s) (missW S (defT S) s (fun _=>false)):=by
 have hh:=histB_23 (.inr h3)
 have h0:=(isSt_iff.1 hs).1
 unfold defT
 rw [if_neg (by rw [hh]; simp),dB,if_neg (by rw [hs]; simp),if_neg (by rw [hh]; simp),if_neg (by rw [h3]; decide),if_pos h3]
 have:=defT_kids hT hs hh (f:=S.length+1) (by have:=rk_le hs hh; omega) (addS (fun _=>false) s)
 rw [this]
 have e:=missW_or (S:=S) (T:=defT S) (p:=s) (A:=addS (fun _=>false) s) (L:=fun _=>false) (fun k hk=>(NoIn.self h0).sub (kid_sub hT hs hk))
 rw [orS_none] at e
 rw [e]
 rfl
theorem defT_comp (h2:(stAt S s).kind=2):∃ t,(stAt S s).ini=[t]∧isSt S t=true∧histB (stAt S t).kind=false∧cIn S t s=true∧defT S s=orS (addS (fun _=>false) s) (upT S (defT S) s (ups S t) (defT S t)):=by
 have hh:=histB_23 (.inl h2)
 have h0:=(isSt_iff.1 hs).1
 obtain ⟨t,e,t1,t2,t3⟩:=hT.ini2 s hs h2
 refine ⟨t,e,t1,t2,t3,?_⟩
 have hle:=rk_le hs hh
 have hF:∀ k,isSt S k=true→histB (stAt S k).kind=false→cIn S k s=true→∀ A,NoIn S A k→dB S [] (S.length+1) A k=orS A (defT S k):=fun k h1 h2 h3 A h4=>dB_defT hT h1 h2 h4 (by have:=rk_in hh h2 h3; omega)
 have hpath:∀ p ∈ (ups S t).takeWhile (fun x=>decide (x ≠ s)),isSt S p=true∧cIn S p s=true:=fun p hp=>⟨(up_state hT (List.takeWhile_subset _ hp)).1,ups_ahead t3 p hp⟩
 have:defT S s=dB S [] (S.length+2) (fun _=>false) s:=by unfold defT; rw [if_neg (by rw [hh]; simp)]
 rw [this,dB,if_neg (by rw [hs]; simp),if_neg (by rw [hh]; simp),if_pos h2,e,all_one,hF t t1 t2 t3 _ ((NoIn.self h0).sub t3)]
 exact up_local hT hF (fun k h1 h2=>defT_sub hT h1 h2) (NoIn.self h0) _ _ hpath
theorem defT_plain:Plain S (defT S s):=by
 unfold defT
 cases hh:histB (stAt S s).kind with
 | true=>rw [if_pos rfl]; intro k hk; cases hk
 | false =>
  rw [if_neg (by simp)]
  have h0:Post S [] (S.length+2) (fun _=>false) ⟨fun _=>false,fun _=>false⟩ (fun _=>false) :=
   ⟨rfl,⟨fun k hk=>absurd hk Bool.false_ne_true,fun x hx _=>absurd hx Bool.false_ne_true⟩,fun x hx=>absurd hx Bool.false_ne_true⟩
  have hp:=sim_pB hT (good_nil hT) (S.length+2) (S.length+2) s hs (rk_lt2 hs) (rk_lt2 hs) _ _ _ h0
  have:=hp.inv.plain
  rw [hp.same] at this
  exact this
theorem defT_self (hh:histB (stAt S s).kind=false):hasS (defT S s) s=true:=by
 have h0:=(isSt_iff.1 hs).1
 by_cases h2:(stAt S s).kind=2
 · obtain ⟨t,-,-,-,-,e⟩:=defT_comp hT hs h2
   rw [e,hasS_orS,hasS_self h0]; rfl
 · by_cases h3:(stAt S s).kind=3
   · rw [defT_par hT hs h3,hasS_orS,hasS_self h0]; rfl
   · rw [defT_leaf hs hh h2 h3]; exact hasS_self h0
theorem up_else (hh:histB (stAt S s).kind=false) (top:Int) {y:Nat} (hy:Sub S (y:Int) s):∀ (path:List Int) (A:Nat→Bool),(∀ p ∈ path,isSt S p=true∧histB (stAt S p).kind=false∧cIn S s p=true)→Le (defT S s) A →
 Le (defT S s) (upW S (someD S) addS (dB S [] (S.length+2)) top path A)∧upW S (someD S) addS (dB S [] (S.length+2)) top path A y=A y
 | [],A,_,hA=>⟨hA,rfl⟩
 | p :: r,A,hp,hA=>by
  rw [upW]
  by_cases he:p=top
  · rw [if_pos he]; exact ⟨hA,rfl⟩
  · rw [if_neg he]
    obtain ⟨h1,h2,h3⟩:=hp p (List.mem_cons_self ..)
    have hA1:Le (defT S s) (upStep S (someD S) addS (dB S [] (S.length+2)) A p):=hA.trans ((abs_upStep (abs_dB S [] (S.length+2)) p).1 A)
    obtain ⟨r1,r2⟩:=up_else hh top hy r _ (fun q hq=>hp q (List.mem_cons_of_mem _ hq)) hA1
    refine ⟨r1,r2.trans ?_⟩
    have hyp:¬ (y:Int)=p:=by
     rintro rfl
     rcases hy with hy | hy
     · rw [hy] at h3; exact cIn_self h3
     · exact cIn_self (cIn_tr h3 hy)
    have hadd:addS A p y=A y:=fr_add hyp A
    have hLe:Le (defT S s) (addS A p):=hA.trans (le_add A p)
    have hfold:∀ (L:List Int),(∀ k ∈ L,k ∈ kids S p)→∀ B,Le (defT S s) B→L.foldl (kidStep (someD S) (dB S [] (S.length+2))) B y=B y:=by
     intro L
     induction L with
     | nil=>intro _ B _; rfl
     | cons k L ih =>
      intro hL B hB
      rw [List.foldl_cons]
      have hB1:Le (defT S s) (kidStep (someD S) (dB S [] (S.length+2)) B k):=hB.trans ((abs_kid (abs_dB S [] (S.length+2) k)).1 B)
      rw [ih (fun j hj=>hL j (List.mem_cons_of_mem _ hj)) _ hB1]
      obtain ⟨a1,a2,a3,a4,a5⟩:=hT.kid_up (isSt_iff.1 h1).1 (hL k (List.mem_cons_self ..))
      unfold kidStep
      split
      · rfl
      · rename_i hsk
        by_cases hks:k=s
        · subst hks
          have hd:Le (dB S [] (S.length+2) (fun _=>false) k) B:=by
           have:=hB
           unfold defT at this
           rwa [if_neg (by rw [hh]; simp)] at this
          exact congrFun ((abs_dB S [] (S.length+2) k).2 _ B hd) y
        · refine dB_frame hT (H:=[]) _ k a1 a3 ?_ B
          intro hyk
          have hsk2:¬ cIn S s k=true:=fun hc=>hsk (some_of hs (hasS_le hB (defT_self hT hs hh)) hc)
          have hks2:¬ cIn S k s=true:=fun hc=>by
           rcases ((cIn_iff _ _ _).1 hc).2 with hu | hu
           · rw [a2] at hu; rw [hu] at h3; exact cIn_self h3
           · rw [a2] at hu; exact cIn_self (cIn_tr h3 hu)
          rcases hy with hy | hy
          · rcases hyk with hyk | hyk
            · exact hks (hyk.symm.trans hy)
            · rw [hy] at hyk; exact hsk2 hyk
          · rcases hyk with hyk | hyk
            · rw [hyk] at hy; exact hks2 hy
            · rcases line y y (by omega) hy hyk with h | h | h
              · exact hks h.symm
              · exact hsk2 h
              · exact hks2 h
    unfold upStep
    split
    · exact (hfold _ (fun _ h=>h) _ hLe).trans hadd
    · exact hadd
theorem dSet_one (hh:histB (stAt S s).kind=false) (top:Int):Le (defT S s) (dSet S [] top [s])∧∀ y:Nat,Sub S (y:Int) s→dSet S [] top [s] y=defT S s y:=by
 have hr:realS S [] [s]=[s]:=by
  unfold realS ofS
  simp only [List.foldl_cons,List.foldl_nil]
  rw [if_neg (by rw [hs]; simp),if_pos hh]
  rfl
 have e:dSet S [] top [s]=upW S (someD S) addS (dB S [] (S.length+2)) top (ups S s) (defT S s):=by
  unfold dSet
  rw [hr]
  simp only [List.foldl_cons,List.foldl_nil]
  unfold aboveW defT
  rw [if_neg (by rw [hh]; simp)]
 rw [e]
 have hp:∀ p ∈ ups S s,isSt S p=true∧histB (stAt S p).kind=false∧cIn S s p=true:=fun p hp=>up_state hT hp
 by_cases hz:∃ y:Nat,Sub S (y:Int) s
 · obtain ⟨y,hy⟩:=hz
   exact ⟨(up_else hT hs hh top hy _ _ hp (Le.refl _)).1,fun y hy=>(up_else hT hs hh top hy _ _ hp (Le.refl _)).2⟩
 · exact absurd ⟨s.toNat,.inl (by have:=(isSt_iff.1 hs).1; omega)⟩ hz
end
end Go.Proofs.YtmhkpjcdkjnlnaaGreatDoor
