/- Rounds of a session, and settling, plainly: what was whole stays whole; behind it nothing is inside. No program in this text. -/
import Derived.Test.YtmhkpjcdkjnlnaaGreatDoorFUIfp
import Derived.Test.YtmhkpjcdkjnlnaaGreatDoorFUIbf
import Derived.Test.YtmhkpjcdkjnlnaaGreatDoorFUHref
namespace Go.Proofs.YtmhkpjcdkjnlnaaGreatDoor
set_option linter.unusedVariables false

def cfN (C:Ch) (X:Se):Nat:=bset X.a C.sts.length
def rndL (C:Ch) (ev:Int) (X:Se):List Int:=numsC (siL C (leftN C (cfN C X)) (gaL C X.env ev (cfN C X)).1)
def rndM (C:Ch) (ev:Int) (X:Se):Nat:=(gaL C X.env ev (cfN C X)).2
def Se.addE (X:Se) (k:Nat):Se:=⟨X.a,X.hist,X.env,X.ins ++ List.replicate k 1001,X.st,X.out⟩
def Se.dropI (X:Se):Se:=⟨X.a,X.hist,X.env,X.ins.tail,X.st,X.out⟩
def Se.hush (X:Se):Se:=⟨X.a,X.hist,X.env,X.ins,X.st,[]⟩
def stpO (C:Ch) (l:List Int) (X:Se):Se :=
 let Y:=stpS C l ⟨bitN (cfN C X),padH C.sts.length X.hist,X.env,X.ins,X.st,[]⟩
 ⟨Y.a,Y.hist,Y.env,Y.ins,Y.st,X.out ++ Y.out⟩
def capI (X:Se):Se:=if 50 < X.ins.length then X.putSt 3 else X
def stepL (C:Ch) (l:List Int) (X:Se):Se:=if l=[] then X else stpO C l X
def rndS (C:Ch) (ev:Int) (X:Se):Se:=capI (stepL C (rndL C ev X) (X.addE (rndM C ev X)))
def rndF (C:Ch) (ev:Int) (X:Se) (f:Nat):Bool × Se × Nat :=
 if f=0 then (false,X.putSt 3,0) else (decide (rndL C ev X ≠ []),rndS C ev X,f - 1)
def stlF (C:Ch):Nat→Se→Nat→Se
 | 0,X,f=>X
 | k+1,X,f=>if X.st ≠ 1 then X else
  let q:=rndF C 0 X f
  if q.1=true ∨ q.2.1.st ≠ 1 then stlF C k q.2.1 q.2.2
  else if q.2.1.ins=[] then q.2.1
  else let r:=rndF C (q.2.1.ins.headD 0) q.2.1.dropI q.2.2; stlF C k r.2.1 r.2.2
def startS (C:Ch):Se:=stlF C 42 (fstS C) 40
def takeS (C:Ch) (ev:Int) (X:Se):Se:=if X.st=1 then stlF C 42 (rndS C ev X) 39 else X
theorem doS_env (l:List Ac) (X:Se):(doS l X).env.length=X.env.length:=doL_env l ⟨X.env,[],[]⟩
theorem finS_env (S:List St) (k:Int) (X:Se):(finS S k X).env=X.env:=by
 unfold finS
 split
 · rfl
 · split <;> rfl
theorem enS_env (S:List St) (k:Int) (X:Se):(enS S k X).env.length=X.env.length:=by
 unfold enS
 split
 · rw [finS_env,doS_env]; rfl
 · rw [doS_env]; rfl
theorem entU_env (S:List St) (P:Nat→Bool) (X:Se):∀ n:Nat,(entU S P n X).env.length=X.env.length
 | 0=>rfl
 | n+1=>by
  rw [entU]
  split
  · rw [enS_env,entU_env S P X n]
  · exact entU_env S P X n
theorem offU_env (S:List St) (Q:Nat→Bool) (X:Se):∀ d:Nat,(offU S Q d X).env.length=X.env.length
 | 0=>rfl
 | d+1=>by
  rw [offU]
  split
  · show (doS _ _).env.length=_
    rw [doS_env,offU_env S Q X d]
  · exact offU_env S Q X d
theorem acU_env (R:List Tr) (l:List Int) (X:Se):∀ m:Nat,(acU R l m X).env.length=X.env.length
 | 0=>rfl
 | m+1=>by rw [acU,doS_env,acU_env R l X m]
theorem stpS_env (C:Ch) (l:List Int) (X:Se):(stpS C l X).env.length=X.env.length:=by
 unfold stpS
 simp only
 rw [entU_env,acU_env]
 unfold lvS
 rw [offU_env]
 rfl
structure Few (C:Ch):Prop where
 ent:∀ s,(stAt C.sts s).ent.length≤40
 exi:∀ s,(stAt C.sts s).exi.length≤40
 acts:∀ i,(trAt C.trs i).acts.length≤40
theorem stpS_lim {C:Ch} (hF:Few C) (l:List Int) {n:Nat} {X:Se} (h:Lim n X):Lim (n+C.sts.length+l.length+3 * C.sts.length) (stpS C l X):=by
 unfold stpS
 simp only
 refine entU_lim hF.ent _ (acU_lim hF.acts ?_ _) _
 unfold lvS
 exact offU_lim hF.exi _ (putH_lim h _) _
theorem doS_ins (l:List Ac) (X:Se):(doS l X).ins.length≤X.ins.length+(l.length+1):=by
 have h:=doL_ins l ⟨X.env,[],[]⟩
 show (X.ins ++ (doL l ⟨X.env,[],[]⟩).ins).length≤_
 rw [List.length_append]
 simp only [List.length_nil] at h
 omega
theorem finS_ins (S:List St) (k:Int) (X:Se):(finS S k X).ins.length≤X.ins.length+2:=by
 unfold finS
 split
 · exact Nat.le_add_right _ _
 · split
   · show ((X.ins ++ [2000+k]) ++ [2000+(stAt S k).par]).length≤_
     simp
   · show (X.ins ++ [2000+k]).length≤_
     simp
theorem enS_ins {S:List St} (hA:∀ s,(stAt S s).ent.length≤40) (k:Int) (X:Se):(enS S k X).ins.length≤X.ins.length+43:=by
 have h1:=doS_ins (stAt S k).ent (X.putA (addS X.a k))
 have h2:=hA k
 have h3:(X.putA (addS X.a k)).ins=X.ins:=rfl
 rw [h3] at h1
 unfold enS
 split
 · have h4:=finS_ins S (stAt S k).par (doS (stAt S k).ent (X.putA (addS X.a k)))
   omega
 · omega
theorem entU_ins {S:List St} (hA:∀ s,(stAt S s).ent.length≤40) (P:Nat→Bool) (X:Se):∀ n:Nat,(entU S P n X).ins.length≤X.ins.length+43 * n
 | 0=>Nat.le_refl _
 | n+1=>by
  have ih:=entU_ins hA P X n
  rw [entU]
  split
  · have:=enS_ins hA (n:Int) (entU S P n X)
    omega
  · omega
theorem rndM_le {C:Ch} (hT:Tame C.sts) (hF:fewB C=true) (ev:Int) (X:Se):rndM C ev X≤36000:=by
 have h:∀ (l:List Int) (a:List Int × Nat),(l.foldl (gaStep C X.env ev) a).2≤a.2+1500 * l.length:=by
  intro l
  induction l with
  | nil=>intro a; simp
  | cons s r ih =>
   intro a
   rw [List.foldl_cons,List.length_cons]
   refine Nat.le_trans (ih _) ?_
   have:=missed_le X.env ev hT hF s
   unfold gaStep
   simp only
   omega
 have h1:=h (lvL C.sts (cfN C X)) ([],0)
 have h2:=lvU_len C.sts (cfN C X) C.sts.length
 have h3:=hT.len
 unfold rndM gaL
 unfold lvL at h1 ⊢
 simp only at h1
 omega
theorem gaL_cnt (C:Ch) (env:List Int) (ev:Int) (n:Nat):(gaL C env ev n).1.length≤C.sts.length:=by
 have h:∀ (l:List Int) (a:List Int × Nat),(l.foldl (gaStep C env ev) a).1.length≤a.1.length+l.length:=by
  intro l
  induction l with
  | nil=>intro a; simp
  | cons s r ih =>
   intro a
   rw [List.foldl_cons,List.length_cons]
   refine Nat.le_trans (ih _) ?_
   have:=putIn_len a.1 (frA env ev C.trs (wayL C.sts s) 0).1
   unfold gaStep
   simp only
   omega
 have h1:=h (lvL C.sts n) ([],0)
 have h2:=lvU_len C.sts n C.sts.length
 unfold gaL
 unfold lvL at h1 ⊢
 simp only [List.length_nil] at h1
 omega
theorem rndL_len (C:Ch) (ev:Int) (X:Se):(rndL C ev X).length≤C.sts.length:=by
 have h1:=si_len C (leftN C (cfN C X)) (gaL C X.env ev (cfN C X)).1 []
 have h2:=gaL_cnt C X.env ev (cfN C X)
 unfold rndL numsC siL
 rw [List.length_map]
 simp only [List.length_nil] at h1
 omega
theorem rndL_tr (C:Ch) (ev:Int) (X:Se):∀ i ∈ rndL C ev X,isTr C.trs i=true:=fun i hi=>by
 obtain ⟨x,hx,rfl⟩:=List.mem_map.1 hi
 exact ((siL_apt C (leftN C (cfN C X)) (gaL C X.env ev (cfN C X)).1).2 x hx).2.2
structure Okw (C:Ch) (X:Se):Prop where
 wb:WB C.sts (bitN (cfN C X)) 0
 snd:SoundP C.sts X.hist
 hl:X.hist.length=C.sts.length
 lt:∀ x ∈ X.hist,x < 4294967296
 el:X.env.length=C.vars.toNat
 fit:∀ x ∈ X.env,F64 x
 big:X.ins.length≤300000
 il:X.st=1→X.ins.length≤1100
theorem bset_self (P:Nat→Bool) (m:Nat):bset (bitN (bset P m)) m=bset P m:=bset_congr m fun k hk=>bset_has hk
theorem cfN_bit {C:Ch} {X:Se}:bset (bitN (cfN C X)) C.sts.length=cfN C X:=bset_self _ _
theorem wb_norm {S:List St} (hT:Tame S) {A:Nat→Bool} (h:WB S A 0):WB S (bitN (bset A S.length)) 0:=by
 refine WB.congr hT h fun y hy=>?_
 have hyS:isSt S y=true:=by
  rcases hy with rfl | hy
  · exact isSt_iff.2 ⟨by omega,by have:=hT.pos; omega⟩
  · exact (cIn_range hy).2.2
 obtain ⟨k,rfl,hk⟩:=isSt_nat hyS
 rw [has_natI,has_natI,bset_has hk]
theorem padH_id {n:Nat} {H:List Nat} (h:H.length=n):padH n H=H:=by
 unfold padH
 rw [h,Nat.sub_self,List.replicate_zero,List.append_nil]
theorem Okw.putSt {C:Ch} {X:Se} (h:Okw C X) {n:Int} (hn:n ≠ 1):Okw C (X.putSt n):=⟨h.wb,h.snd,h.hl,h.lt,h.el,h.fit,h.big,fun h1=>absurd h1 hn⟩
theorem Okw.dropI {C:Ch} {X:Se} (h:Okw C X):Okw C X.dropI:=⟨h.wb,h.snd,h.hl,h.lt,h.el,h.fit,by
 have:=h.big
 show X.ins.tail.length≤_
 rw [List.length_tail]
 omega,fun h1=>by
 have:=h.il h1
 show X.ins.tail.length≤_
 rw [List.length_tail]
 omega⟩
structure Chk (C:Ch):Prop where
 chk:chk hasTB C=.ok
 few:Few C
 fewB:fewB C=true
 vars:C.vars.toNat≤8
theorem few_of {C:Ch} (h:fewB C=true):Few C where
 ent s:=by
  unfold stAt
  rcases Nat.lt_or_ge s.toNat C.sts.length with hk | hk
  · have:=(few_parts h).2.2.1 s.toNat hk
    unfold fewStB at this
    simp only [Bool.and_eq_true,decide_eq_true_eq] at this
    exact (of_fewActs this.1.1).1
  · rw [List.getD_eq_getElem?_getD,List.getElem?_eq_none hk]
    decide
 exi s:=by
  unfold stAt
  rcases Nat.lt_or_ge s.toNat C.sts.length with hk | hk
  · have:=(few_parts h).2.2.1 s.toNat hk
    unfold fewStB at this
    simp only [Bool.and_eq_true,decide_eq_true_eq] at this
    exact (of_fewActs this.1.2).1
  · rw [List.getD_eq_getElem?_getD,List.getElem?_eq_none hk]
    decide
 acts s:=by
  unfold trAt
  rcases Nat.lt_or_ge s.toNat C.trs.length with hk | hk
  · have:=(few_parts h).2.2.2 s.toNat hk
    unfold fewTrB at this
    simp only [Bool.and_eq_true,decide_eq_true_eq] at this
    exact (of_fewActs this.1.1).1
  · rw [List.getD_eq_getElem?_getD,List.getElem?_eq_none hk]
    decide
theorem chk_mk {C:Ch} (h:Go.Proofs.YtmhkpjcdkjnlnaaGreatDoor.chk hasTB C=.ok) (hf:fewB C=true):Chk C:=⟨h,few_of hf,hf,by have:=vars_of h; omega⟩
theorem Okw.round {C:Ch} (hC:Chk C) {X:Se} (h:Okw C X) (h1:X.st=1) (ev:Int):Okw C (rndS C ev X):=by
 have hT:=tame_of hC.chk
 have hm:=rndM_le hT hC.fewB ev X
 have hi:=h.il h1
 have hZi:(X.addE (rndM C ev X)).ins.length≤37100:=by
  show (X.ins ++ List.replicate _ (1001:Int)).length≤_
  rw [List.length_append,List.length_replicate]
  omega
 unfold rndS
 obtain ⟨Z,hZ⟩:∃ Z,X.addE (rndM C ev X)=Z:=⟨_,rfl⟩
 have z1:Z.a=X.a:=by rw [← hZ]; rfl
 have z2:Z.hist=X.hist:=by rw [← hZ]; rfl
 have z3:Z.env=X.env:=by rw [← hZ]; rfl
 rw [hZ] at hZi ⊢
 have hcf:cfN C Z=cfN C X:=by unfold cfN; rw [z1]
 have key:WB C.sts (bitN (cfN C (stepL C (rndL C ev X) Z))) 0∧SoundP C.sts (stepL C (rndL C ev X) Z).hist∧(stepL C (rndL C ev X) Z).hist.length=C.sts.length∧(∀ x ∈ (stepL C (rndL C ev X) Z).hist,x < 4294967296)∧(stepL C (rndL C ev X) Z).env.length=C.vars.toNat∧(∀ x ∈ (stepL C (rndL C ev X) Z).env,F64 x)∧(stepL C (rndL C ev X) Z).ins.length≤300000:=by
  unfold stepL
  split
  · rw [hcf,z2,z3]
    exact ⟨h.wb,h.snd,h.hl,h.lt,h.el,h.fit,by omega⟩
  · have hw:=stp_whole hC.chk cfN_bit h.wb h.lt h.snd X.env ev (l:=rndL C ev X) rfl X.env Z.ins Z.st
    have hlm:=stpS_lim hC.few (rndL C ev X) (n:=0) (X:=⟨bitN (cfN C X),padH C.sts.length X.hist,X.env,Z.ins,Z.st,[]⟩) ⟨by show X.env.length≤1000; have:=h.el; have:=hC.vars; omega,h.fit,by simp,by show Z.ins.length≤_; omega⟩
    have hll:=rndL_len C ev X
    have hsl:=hT.len
    unfold stpO
    rw [hcf,z2,z3]
    refine ⟨wb_norm hT hw.1,hw.2,?_,?_,?_,hlm.fit,?_⟩
    · show (stpS C _ _).hist.length=_
      rw [stpS_hist,recU_len,padH_id h.hl,h.hl]
    · show ∀ x ∈ (stpS C _ _).hist,_
      rw [stpS_hist]
      refine recU_lt (by omega) _ _ _ _ ?_
      show ∀ x ∈ padH C.sts.length X.hist,x < 4294967296
      rw [padH_id h.hl]
      exact h.lt
    · show (stpS C _ _).env.length=_
      rw [stpS_env]
      exact h.el
    · have:=hlm.ins
      show (stpS C _ _).ins.length≤_
      omega
 obtain ⟨k1,k2,k3,k4,k5,k6,k7⟩:=key
 unfold capI
 split
 · exact ⟨k1,k2,k3,k4,k5,k6,k7,fun h3=>absurd h3 (by show (3:Int) ≠ 1; decide)⟩
 · exact ⟨k1,k2,k3,k4,k5,k6,k7,fun _=>by omega⟩
theorem Okw.roundF {C:Ch} (hC:Chk C) {X:Se} (h:Okw C X) (h1:X.st=1) (ev:Int) (f:Nat):Okw C (rndF C ev X f).2.1:=by
 unfold rndF
 split
 · exact h.putSt (by decide)
 · exact h.round hC h1 ev
theorem Okw.settle {C:Ch} (hC:Chk C):∀ (k:Nat) (X:Se) (f:Nat),Okw C X→Okw C (stlF C k X f)
 | 0,X,f,h=>h
 | k+1,X,f,h=>by
  rw [stlF]
  split
  · exact h
  · rename_i h1
    have h1:X.st=1:=Decidable.not_not.1 h1
    have hq:=h.roundF hC h1 0 f
    simp only
    split
    · exact Okw.settle hC k _ _ hq
    · rename_i h2
      have h2:(rndF C 0 X f).2.1.st=1:=Decidable.not_not.1 fun hh=>h2 (.inr hh)
      split
      · exact hq
      · exact Okw.settle hC k _ _ (hq.dropI.roundF hC h2 _ _)
theorem capI_st {X:Se} (h:(capI X).st=1):capI X=X:=by
 unfold capI at h ⊢
 split
 · rename_i h2
   rw [if_pos h2] at h
   exact absurd h (by show (3:Int) ≠ 1; decide)
 · rfl
structure Still (C:Ch) (X:Se):Prop where
 ins:X.ins=[]
 none:rndL C 0 X=[]
 well:rndM C 0 X=0
theorem settle_still {C:Ch}:∀ (k:Nat) (X:Se) (f:Nat),(X.st=1→f+2≤k)→1≤k→(stlF C k X f).st=1→Still C (stlF C k X f)
 | 0,X,f,_,h0,_=>absurd h0 (by decide)
 | k+1,X,f,hk,_,h=>by
  rw [stlF] at h ⊢
  by_cases h1:X.st=1
  · rw [if_neg (fun hh=>hh h1)] at h ⊢
    simp only at h ⊢
    have hk:=hk h1
    by_cases h2:(rndF C 0 X f).1=true ∨ (rndF C 0 X f).2.1.st ≠ 1
    · rw [if_pos h2] at h ⊢
      refine settle_still k _ _ (fun h3=>?_) (by omega) h
      unfold rndF at h3 ⊢
      split
      · rename_i hf
        rw [if_pos hf] at h3
        exact absurd h3 (by show (3:Int) ≠ 1; decide)
      · show f - 1+2≤k
        omega
    · rw [if_neg h2] at h ⊢
      have h3:(rndF C 0 X f).1=false:=by
       cases hb:(rndF C 0 X f).1 with
       | false=>rfl
       | true=>exact absurd (.inl hb) h2
      have h4:(rndF C 0 X f).2.1.st=1:=Decidable.not_not.1 fun hh=>h2 (.inr hh)
      have hf:f ≠ 0:=fun hf=>by
       unfold rndF at h4
       rw [if_pos hf] at h4
       exact absurd h4 (by show (3:Int) ≠ 1; decide)
      have hF:rndF C 0 X f=(decide (rndL C 0 X ≠ []),rndS C 0 X,f - 1):=by unfold rndF; rw [if_neg hf]
      rw [hF] at h h3 h4 ⊢
      simp only at h h3 h4 ⊢
      have hn:rndL C 0 X=[]:=by simpa using h3
      have hS:rndS C 0 X=X.addE (rndM C 0 X):=by
       unfold rndS at h4 ⊢
       rw [capI_st h4,hn]
       unfold stepL
       rw [if_pos rfl]
      by_cases h5:(rndS C 0 X).ins=[]
      · rw [if_pos h5]
        rw [hS] at h5 ⊢
        have h6:X.ins ++ List.replicate (rndM C 0 X) 1001=[]:=h5
        obtain ⟨h7,h8⟩:=List.append_eq_nil_iff.1 h6
        have h9:rndM C 0 X=0:=by
         have:=congrArg List.length h8
         simpa using this
        exact ⟨h5,hn,h9⟩
      · rw [if_neg h5] at h ⊢
        refine settle_still k _ _ (fun h6=>?_) (by omega) h
        unfold rndF at h6 ⊢
        split
        · rename_i hf2
          rw [if_pos hf2] at h6
          exact absurd h6 (by show (3:Int) ≠ 1; decide)
        · show f - 1 - 1+2≤k
          omega
  · rw [if_pos h1] at h
    exact absurd h h1
theorem set_one12 {S:List St} (hT:Tame S) (H:List Nat) (hg:∀ s,s < H.length→GoodAt S H s):∃ t0,(stAt S 0).ini=[t0]∧WB S (addS (pSet S H 0 [t0]).a 0) 0:=by
 have h0:isSt S 0=true:=isSt_iff.2 ⟨by omega,by have:=hT.pos; omega⟩
 obtain ⟨t0,hi0,ht1,ht2,ht3⟩:=hT.ini2 0 h0 hT.first
 obtain ⟨h1,h2,h3⟩:=whole_one hT H t0 ht1 ht2 (by have:=cIn_range ht3; omega)
 refine ⟨t0,hi0,?_⟩
 rw [set_same hT (good_std hT hg).1]
 exact h1
theorem fst_hist (C:Ch):(fstS C).hist=List.replicate C.sts.length 0:=by
 unfold fstS
 simp only
 rw [entU_hist,enS_hist]
 rfl
theorem fst_ok {C:Ch} (hC:Chk C):Okw C (fstS C):=by
 have hT:=tame_of hC.chk
 have hX1:(enS C.sts 0 (beg C)).hist=List.replicate C.sts.length 0:=by rw [enS_hist]; rfl
 obtain ⟨t0,hi0,hW⟩:=set_one12 hT (List.replicate C.sts.length 0) (good_zero C.sts C.sts.length)
 have hlm:Lim 3 (enS C.sts 0 (beg C)):=enS_lim hC.few.ent 0 (beg_lim (vars_of hC.chk))
 have hlm2:Lim (3+3 * C.sts.length) (fstS C):=entU_lim hC.few.ent _ hlm _
 have hin:(fstS C).ins.length≤1100:=by
  have h1:=enS_ins hC.few.ent 0 (beg C)
  have h2:=entU_ins hC.few.ent (fun k=>(pSet C.sts (enS C.sts 0 (beg C)).hist 0 (stAt C.sts 0).ini).a k && !(enS C.sts 0 (beg C)).a k) (enS C.sts 0 (beg C)) C.sts.length
  have h3:=hT.len
  have h4:(beg C).ins.length=0:=rfl
  show (entU C.sts _ C.sts.length (enS C.sts 0 (beg C))).ins.length≤_
  omega
 refine ⟨?_,?_,?_,?_,?_,hlm2.fit,by omega,fun _=>hin⟩
 · unfold cfN
   refine WB.congr hT (wb_norm hT hW) fun y hy=>?_
   have hyS:isSt C.sts y=true:=by
    rcases hy with rfl | hy
    · exact isSt_iff.2 ⟨by omega,by have:=hT.pos; omega⟩
    · exact (cIn_range hy).2.2
   obtain ⟨k,rfl,hk⟩:=isSt_nat hyS
   rw [has_natI,has_natI,bset_has hk,bset_has hk]
   unfold fstS
   simp only
   rw [entU_a,hX1,hi0,enS_a,decide_eq_true hk]
   unfold addS
   show (((false || decide ((k:Int)=0)) || _):Bool)=_
   cases (pSet C.sts (List.replicate C.sts.length 0) 0 [t0]).a k <;> cases decide ((k:Int)=0) <;> rfl
 · rw [fst_hist]
   exact sound_of_snd hT (fun s h0=>absurd (hist_zero _ _) h0) fun s hs hh h0=>absurd (hist_zero _ _) h0
 · rw [fst_hist,List.length_replicate]
 · rw [fst_hist]
   intro x hx
   rw [List.eq_of_mem_replicate hx]
   decide
 · unfold fstS
   simp only
   rw [entU_env,enS_env]
   exact List.length_replicate
theorem start_ok {C:Ch} (hC:Chk C):Okw C (startS C)∧((startS C).st=1→Still C (startS C)) :=
 ⟨(fst_ok hC).settle hC _ _ _,settle_still _ _ _ (fun _=>by decide) (by decide)⟩
theorem take_ok {C:Ch} (hC:Chk C) (ev:Int) {X:Se} (h:Okw C X) (hs:X.st=1→Still C X):Okw C (takeS C ev X)∧((takeS C ev X).st=1→Still C (takeS C ev X)):=by
 unfold takeS
 split
 · rename_i h1
   exact ⟨(h.round hC h1 ev).settle hC _ _ _,settle_still _ _ _ (fun _=>by decide) (by decide)⟩
 · exact ⟨h,hs⟩
theorem frS_else {env:List Int} {ev:Int} (s:Int):∀ (r:List Tr) (k n:Nat),(∀ t ∈ r,t.ev ≠ ev)→frS env ev s r k n=(-1,n)
 | [],k,n,_=>rfl
 | t :: r,k,n,h=>by
  have ih:=frS_else (env:=env) s r (k+1) n fun x hx=>h x (List.mem_cons_of_mem _ hx)
  have hr:rdyV env ev t=(false,false):=by unfold rdyV; rw [if_neg (h t List.mem_cons_self)]
  unfold frS
  rw [hr]
  simpa using ih
theorem frA_else {env:List Int} {ev:Int} {R:List Tr} (h:∀ t ∈ R,t.ev ≠ ev):∀ (l:List Int) (n:Nat),frA env ev R l n=(-1,n)
 | [],n=>rfl
 | s :: l,n=>by
  have ih:=frA_else (env:=env) h l n
  unfold frA
  rw [frS_else s R 0 n h]
  simpa using ih
theorem gaL_else {C:Ch} {env:List Int} {ev:Int} (h:∀ t ∈ C.trs,t.ev ≠ ev) (n:Nat):gaL C env ev n=([],0):=by
 have:∀ (l:List Int),l.foldl (gaStep C env ev) ([],0)=([],0):=by
  intro l
  induction l with
  | nil=>rfl
  | cons s r ih =>
   rw [List.foldl_cons]
   have hs:gaStep C env ev ([],0) s=([],0):=by
    unfold gaStep
    rw [frA_else h]
    rfl
   rw [hs,ih]
 exact this _
theorem take_idle {C:Ch} {ev:Int} (h:∀ t ∈ C.trs,t.ev ≠ ev) {X:Se} (hs:X.st=1→Still C X):takeS C ev X=X:=by
 unfold takeS
 split
 · rename_i h1
   have hs:=hs h1
   have hl:rndL C ev X=[]:=by unfold rndL; rw [gaL_else h]; rfl
   have hm:rndM C ev X=0:=by unfold rndM; rw [gaL_else h]
   have hadd:X.addE 0=X:=by
    show (⟨X.a,X.hist,X.env,X.ins ++ [],X.st,X.out⟩:Se)=X
    rw [List.append_nil]
   have hr:∀ e,rndL C e X=[]→rndM C e X=0→rndS C e X=X:=fun e h3 h4=>by
    unfold rndS stepL
    rw [h3,h4,if_pos rfl,hadd]
    unfold capI
    rw [if_neg (by rw [hs.ins]; decide)]
   rw [hr ev hl hm]
   have hF:rndF C 0 X 39=(false,X,38):=by
    unfold rndF
    rw [if_neg (by decide),hs.none,hr 0 hs.none hs.well]
    rfl
   rw [stlF,if_neg (fun hh=>hh h1)]
   simp only [hF]
   rw [if_neg (by rintro (hh | hh); · cases hh
                  · exact hh h1),if_pos hs.ins]
 · rfl
end Go.Proofs.YtmhkpjcdkjnlnaaGreatDoor
