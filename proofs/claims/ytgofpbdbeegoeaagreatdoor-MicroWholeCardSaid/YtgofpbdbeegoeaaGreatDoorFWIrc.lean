/- What is kept of what was gathered may be taken together, plainly: the reaches are there and lie apart, the Targets may be, so what is whole is whole behind the step. No program in this text. -/
import Derived.Test.YtgofpbdbeegoeaaGreatDoorFWMsn
import Derived.Test.YtgofpbdbeegoeaaGreatDoorFWHrd
import Derived.Test.YtgofpbdbeegoeaaGreatDoorFWHpure
import Derived.Test.YtgofpbdbeegoeaaGreatDoorFWIlv
namespace Go.Proofs.YtgofpbdbeegoeaaGreatDoor
set_option linter.unusedVariables false

section
variable {T:ByteArray→Int→Int→Bool} {C:Ch}
theorem kinds_of (h:chk T C=.ok):∀ z,isSt C.sts z=true→histB (stAt C.sts z).kind=false→(stAt C.sts z).kind=2 ∨ (stAt C.sts z).kind=3 ∨ leafK C.sts z=true:=fun z hz hh=>by
 have hr:=isSt_iff.1 hz
 have hs:=(chk_ok h).2.1 z.toNat (by omega)
 rw [show ((z.toNat:Nat):Int)=z by omega] at hs
 have hk:=(stF_parts hs).1
 unfold kindB at hk
 split at hk
 · left
   simpa using hk
 · have:=fromB_true.1 hk
   unfold histB at hh
   simp only [Bool.or_eq_false_iff,decide_eq_false_iff_not] at hh
   unfold leafK
   simp only [Bool.or_eq_true,decide_eq_true_eq]
   omega
theorem hpar_of {S:List St} (hT:Tame S):∀ s,isSt S s=true→histB (stAt S s).kind=true→isSt S (stAt S s).par=true∧((stAt S (stAt S s).par).kind=2 ∨ (stAt S (stAt S s).par).kind=3):=fun s hs hh=>by
 have hr:=isSt_iff.1 hs
 have hs0:s ≠ 0:=by rintro rfl; rw [hT.first] at hh; revert hh; decide
 have hu:=hT.up s hs (by omega)
 obtain ⟨u1,u2,u3⟩:=cUp_pos hu
 rw [← u2]
 exact ⟨isSt_iff.2 ⟨hu,by omega⟩,hT.kpar s hu⟩
theorem goal_cnt {S:List St} (hT:Tame S) {s:Int} (hs:isSt S s=true):goalOf S s=cCnt S s:=by
 unfold goalOf cCnt kindT
 rw [if_pos hs,hT.par s hs]
theorem cnt_pos (h:chk T C=.ok) (hT:Tame C.sts) {s:Int} (hs:isSt C.sts s=true) (h0:s ≠ 0):isSt C.sts (cCnt C.sts s)=true∧0 < cCnt C.sts s:=by
 have hr:=isSt_iff.1 hs
 unfold cCnt
 split
 · rename_i hh
   obtain ⟨p1,p2⟩:=hpar_of hT s hs hh
   refine ⟨p1,?_⟩
   have hs':=(chk_ok h).2.1 s.toNat (by omega)
   rw [show ((s.toNat:Nat):Int)=s by omega] at hs'
   have hi:=(stF_parts hs').2.1
   unfold kindInB at hi
   rw [if_neg h0] at hi
   have:=(isSt_iff.1 p1).1
   by_cases hp:(stAt C.sts s).par=0
   · exfalso
     split at hi
     · rename_i h4
       rw [h4] at hh
       revert hh
       decide
     · rw [if_pos ⟨hh,hp⟩] at hi
       cases hi
   · omega
 · exact ⟨hs,by omega⟩
theorem jn_some {S:List St} (hT:Tame S) {L:List Int} (hall:∀ i,i < L.length→cIn S (L.getD i 0) 0=true):∀ (n:Nat) (p:Int),p.toNat < n→Sub S p 0→0≤jnF S L n p
 | 0,p,hn,_=>by omega
 | n+1,p,hn,hp=>by
  have hp0:0≤p:=by rcases hp with rfl | hp; omega; have:=cIn_range hp; omega
  rw [jnF,if_neg (by omega)]
  split
  · exact hp0
  · rename_i hc
    rcases hp with rfl | hp
    · exact absurd ⟨hT.first,allU_true hall⟩ hc
    · have:=cUp_pos ((cIn_iff _ _ _).1 hp).1
      have:=cIn_range hp
      exact jn_some hT hall n _ (by omega) (up_sub hp)
theorem jnT_some {S:List St} (hT:Tame S) {L:List Int} (hne:L.length ≠ 0) (hall:∀ x ∈ L,isSt S x=true∧0 < x):0≤jnT S L:=by
 have hin:∀ i,i < L.length→cIn S (L.getD i 0) 0=true:=fun i hi=>by
  have hm:L.getD i 0 ∈ L:=by
   rw [List.getD_eq_getElem?_getD,List.getElem?_eq_getElem hi]
   exact List.getElem_mem hi
  exact hT.all _ (hall _ hm).1 (hall _ hm).2
 unfold jnT
 rw [if_neg hne]
 have h0:=hin 0 (by omega)
 exact jn_some hT hin _ _ (by have:=cUp_pos ((cIn_iff _ _ _).1 h0).1; have:=cIn_range h0; omega) (up_sub h0)
theorem reach_of (h:chk T C=.ok) {i:Int} (hi:isTr C.trs i=true) (ht:(trAt C.trs i).tgts ≠ []) :
 TOk C.sts (rchL C i) (trAt C.trs i).tgts∧isSt C.sts (rchL C i)=true∧(stAt C.sts (rchL C i)).kind=2∧Sub C.sts (trAt C.trs i).src (rchL C i):=by
 have hT:=tame_of h
 obtain ⟨k,rfl,hk⟩:=isTr_nat hi
 have hf:=(chk_ok h).2.2 k hk
 have htr:C.trs.getD k noTr=trAt C.trs (k:Int):=rfl
 rw [htr] at hf
 have hof:rchL C (k:Int)=rchT C.sts (trAt C.trs (k:Int)):=by unfold rchL trOf; rw [if_pos hi]
 rw [hof]
 generalize trAt C.trs (k:Int)=t at *
 unfold trF at hf
 have hsrc:srcB C.sts t.src=true:=by
  cases hb:srcB C.sts t.src with
  | true=>rfl
  | false=>rw [hb,if_pos rfl] at hf; omega
 rw [if_neg (by rw [hsrc]; simp)] at hf
 have hev:evB C.sts t.ev=true:=by
  cases hb:evB C.sts t.ev with
  | true=>rfl
  | false=>rw [hb,if_pos rfl] at hf; omega
 rw [if_neg (by rw [hev]; simp)] at hf
 have htg:tgtsB C.sts t.tgts=true:=by
  cases hb:tgtsB C.sts t.tgts with
  | true=>rfl
  | false=>rw [hb,if_pos rfl] at hf; omega
 clear hf hev
 unfold srcB notFirst at hsrc
 simp only [Bool.and_eq_true,decide_eq_true_eq] at hsrc
 obtain ⟨⟨hs0,hs1⟩,hs2⟩:=hsrc
 unfold tgtsB at htg
 simp only [Bool.and_eq_true,decide_eq_true_eq] at htg
 obtain ⟨⟨_,hn⟩,hp⟩:=htg
 have hst:∀ x ∈ t.tgts,x ≠ 0∧isSt C.sts x=true:=fun x hx=>by
  obtain ⟨j,hj,rfl⟩:=List.getElem_of_mem hx
  have:=of_allU hn j hj
  rw [List.getD_eq_getElem?_getD,List.getElem?_eq_getElem hj] at this
  unfold notFirst at this
  simpa using this
 have hpart:t.tgts.Pairwise fun a b=>Part C.sts (cCnt C.sts a) (cCnt C.sts b):=by
  rw [List.pairwise_iff_getElem]
  intro a b ha hb hab
  have h1:=of_allU hp b hb
  unfold pairB at h1
  have h2:=of_allU h1 a hab
  rw [List.getD_eq_getElem?_getD,List.getElem?_eq_getElem hb,List.getD_eq_getElem?_getD,List.getElem?_eq_getElem ha] at h2
  exact (part_of h2).symm
 have hgoal:∀ x ∈ t.tgts,goalOf C.sts x=cCnt C.sts x:=fun x hx=>goal_cnt hT (hst x hx).2
 have hmem:∀ x ∈ t.tgts,goalOf C.sts x ∈ goalsL C.sts t.tgts:=fun x hx=>List.mem_map.2 ⟨x,hx,rfl⟩
 have hlen:t.tgts.length ≠ 0:=fun hc=>ht (List.eq_nil_of_length_eq_zero hc)
 unfold rchT
 rw [if_neg hlen]
 by_cases hc:t.inner=true∧kindT C.sts t.src=2∧(allU (goalsL C.sts t.tgts).length fun i=>cIn C.sts ((goalsL C.sts t.tgts).getD i 0) t.src)=true
 · rw [if_pos hc]
   obtain ⟨_,hk2,hall⟩:=hc
   refine ⟨⟨fun x hx=>⟨(hst x hx).2,?_⟩,hpart,ht⟩,hs1,?_,.inl rfl⟩
   · obtain ⟨j,hj,he⟩:=List.getElem_of_mem (hmem x hx)
     have:=of_allU hall j hj
     rw [List.getD_eq_getElem?_getD,List.getElem?_eq_getElem hj] at this
     rw [← hgoal x hx,← he]
     exact this
   · unfold kindT at hk2
     rwa [if_pos hs1] at hk2
 · rw [if_neg hc]
   have hall:∀ x ∈ goalsL C.sts t.tgts ++ [t.src],isSt C.sts x=true∧0 < x:=fun x hx=>by
    rcases List.mem_append.1 hx with hx | hx
    · obtain ⟨y,hy,rfl⟩:=List.mem_map.1 hx
      rw [hgoal y hy]
      exact cnt_pos h hT (hst y hy).2 (hst y hy).1
    · rw [List.mem_singleton.1 hx]
      have:=isSt_iff.1 hs1
      exact ⟨hs1,by omega⟩
   have hj:=jnT_some hT (L:=goalsL C.sts t.tgts ++ [t.src]) (by simp) hall
   obtain ⟨j1,j2,j3⟩:=jnT_spec _ _ hj
   have hin:∀ x ∈ goalsL C.sts t.tgts ++ [t.src],cIn C.sts x (jnT C.sts (goalsL C.sts t.tgts ++ [t.src]))=true:=fun x hx=>by
    obtain ⟨j,hj,he⟩:=List.getElem_of_mem hx
    have:=j3 j hj
    rw [List.getD_eq_getElem?_getD,List.getElem?_eq_getElem hj] at this
    rw [← he]
    exact this
   refine ⟨⟨fun x hx=>⟨(hst x hx).2,?_⟩,hpart,ht⟩,j1,j2,.inr (hin _ (List.mem_append_right _ (List.mem_singleton.2 rfl)))⟩
   rw [← hgoal x hx]
   exact hin _ (List.mem_append_left _ (hmem x hx))
end
section
variable (env:List Int) (ev:Int)
theorem frS_src (s:Int) (R:List Tr):∀ (r:List Tr) (k n:Nat),(∀ j t,r[j]?=some t→R[k+j]?=some t)→(frS env ev s r k n).1 ≠ -1→(trAt R (frS env ev s r k n).1).src=s
 | [],k,n,_,h=>absurd rfl h
 | t :: r,k,n,hr,h=>by
  rw [frS] at h ⊢
  have hnext:∀ j u,r[j]?=some u→R[k+1+j]?=some u:=fun j u hu=>by
   have:=hr (j+1) u (by simpa using hu)
   rwa [show k+(j+1)=k+1+j by omega] at this
  split at h
  · rename_i hs
    rw [if_pos hs]
    split at h
    · rename_i hy
      rw [if_pos hy]
      have h0:=hr 0 t rfl
      rw [Nat.add_zero] at h0
      have hk:=(List.getElem?_eq_some_iff.1 h0).1
      rw [trAt_nat hk] at h0
      injection h0 with h0
      simp only
      rw [h0]
      exact hs
    · rename_i hy
      rw [if_neg hy]
      exact frS_src s R r _ _ hnext h
  · rename_i hs
    rw [if_neg hs]
    exact frS_src s R r _ _ hnext h
theorem frA_src (R:List Tr):∀ (l:List Int) (n:Nat),(frA env ev R l n).1 ≠ -1→(trAt R (frA env ev R l n).1).src ∈ l
 | [],n,h=>absurd rfl h
 | s :: r,n,h=>by
  rw [frA] at h ⊢
  split at h
  · rename_i hs
    rw [if_pos hs]
    exact List.mem_cons_of_mem _ (frA_src R r _ h)
  · rename_i hs
    rw [if_neg hs]
    rw [frS_src env ev s R R 0 n (fun j t h=>by rwa [Nat.zero_add]) h]
    exact List.mem_cons_self ..
theorem ga_src (C:Ch) {P:Int→Prop}:∀ (l:List Int) (a:List Int × Nat),(∀ s ∈ l,∀ x ∈ wayL C.sts s,P x)→(∀ i ∈ a.1,P (trAt C.trs i).src)→∀ i ∈ (l.foldl (gaStep C env ev) a).1,P (trAt C.trs i).src
 | [],a,_,h=>h
 | s :: r,a,hl,h=>by
  rw [List.foldl_cons]
  refine ga_src C r _ (fun s' hs'=>hl s' (List.mem_cons_of_mem _ hs')) fun i hi=>?_
  unfold gaStep putIn at hi
  simp only at hi
  split at hi
  · exact h i hi
  · rename_i hn
    rcases List.mem_append.1 hi with h1 | h1
    · exact h i h1
    · obtain rfl:=List.mem_singleton.1 h1
      exact hl s (List.mem_cons_self ..) _ (frA_src env ev C.trs _ 0 (fun hc=>hn (.inl hc)))
theorem gaL_src (C:Ch) (hT:Tame C.sts) (n:Nat) (hW:WB C.sts (bitN n) 0):∀ i ∈ (gaL C env ev n).1,hasS (bitN n) (trAt C.trs i).src=true:=by
 refine ga_src env ev C (P:=fun x=>hasS (bitN n) x=true) _ _ (fun s hs x hx=>?_) (fun i hi=>by cases hi)
 have hsb:hasS (bitN n) s=true:=by
  unfold lvL lvU at hs
  obtain ⟨k,hk,rfl⟩:=List.mem_map.1 hs
  have:=(List.mem_filter.1 hk).2
  unfold leafP at this
  simp only [Bool.and_eq_true] at this
  rw [hasS_nat]
  exact this.1
 unfold wayL at hx
 rcases List.mem_cons.1 hx with rfl | hx
 · exact hsb
 · exact WB.above hT hW _ s x (Nat.le_refl _) hsb (ups_in hx)
end
def entL (C:Ch) (H:List Nat) (l:List Int):List (Int × (Nat→Bool)):=(l.filter fun i=>decide ((trAt C.trs i).tgts ≠ [])).map fun i=>(rchL C i,dSet C.sts H (rchL C i) (trAt C.trs i).tgts)
theorem and_bits {a b k:Nat} (ha:bitN a k=true) (hb:bitN b k=true):a &&& b ≠ 0:=by
 intro hc
 have h1:(a &&& b).testBit k=true:=by
  rw [Nat.testBit_and,Nat.testBit_eq_decide_div_mod_eq,Nat.testBit_eq_decide_div_mod_eq]
  unfold bitN at ha hb
  rw [ha,hb]
  rfl
 rw [hc] at h1
 simp at h1
theorem left_bit {C:Ch} {n k:Nat} {i:Int} (hk:k < 24) (hr:rchL C i ≠ -1) (hb:bitN n k=true) (hin:cIn C.sts (k:Int) (rchL C i)=true):bitN (leftN C n i) k=true:=by
 unfold leftN
 rw [if_neg hr]
 unfold bitN
 rw [bset_bit _ _ _ hk]
 unfold leftP
 rw [hb,hin]
 rfl
theorem kept_of {T:ByteArray→Int→Int→Bool} {C:Ch} (h:chk T C=.ok) {n:Nat} (hW:WB C.sts (bitN n) 0) {H:List Nat} (hH:HOk C.sts H) {l:List Int} (hl:∀ i ∈ l,isTr C.trs i=true∧hasS (bitN n) (trAt C.trs i).src=true)
 (hp:l.Pairwise fun i k=>leftN C n i &&& leftN C n k=0):KeptL C.sts (bitN n) (entL C H l):=by
 have hT:=tame_of h
 have hmem:∀ p ∈ entL C H l,∃ i ∈ l,(trAt C.trs i).tgts ≠ []∧p=(rchL C i,dSet C.sts H (rchL C i) (trAt C.trs i).tgts):=fun p hp=>by
  unfold entL at hp
  obtain ⟨i,hi,rfl⟩:=List.mem_map.1 hp
  obtain ⟨h1,h2⟩:=List.mem_filter.1 hi
  exact ⟨i,h1,by simpa using h2,rfl⟩
 have act:∀ i ∈ l,(trAt C.trs i).tgts ≠ []→hasS (bitN n) (rchL C i)=true:=fun i hi ht=>by
  obtain ⟨_,r2,r3,r4⟩:=reach_of h (hl i hi).1 ht
  rcases r4 with r4 | r4
  · rw [← r4]
    exact (hl i hi).2
  · exact WB.above hT hW _ _ _ (Nat.le_refl _) (hl i hi).2 r4
 refine ⟨fun p hp=>?_,fun p hp=>?_,?_⟩
 · obtain ⟨i,hi,ht,rfl⟩:=hmem p hp
   obtain ⟨_,r2,r3,r4⟩:=reach_of h (hl i hi).1 ht
   exact ⟨act i hi ht,r3⟩
 · obtain ⟨i,hi,ht,rfl⟩:=hmem p hp
   obtain ⟨r1,r2,r3,r4⟩:=reach_of h (hl i hi).1 ht
   exact dset_whole hT hH r1 r2 r3
 · unfold entL
   rw [List.pairwise_map]
   have hf:=List.Pairwise.filter (fun i=>decide ((trAt C.trs i).tgts ≠ [])) hp
   refine List.Pairwise.imp_of_mem (fun {i k} hi hk hik=>?_) hf
   obtain ⟨i1,i2⟩:=List.mem_filter.1 hi
   obtain ⟨k1,k2⟩:=List.mem_filter.1 hk
   have i2:(trAt C.trs i).tgts ≠ []:=by simpa using i2
   have k2:(trAt C.trs k).tgts ≠ []:=by simpa using k2
   obtain ⟨_,a2,a3,_⟩:=reach_of h (hl i i1).1 i2
   obtain ⟨_,b2,b3,_⟩:=reach_of h (hl k k1).1 k2
   refine reach_part hT hW (act i i1 i2) a3 (act k k1 k2) b3 a2 b2 fun y hy hyA y1 y2=>?_
   obtain ⟨j,rfl⟩:∃ j:Nat,y=(j:Int):=⟨y.toNat,by have:=isSt_iff.1 hy; omega⟩
   rw [hasS_nat] at hyA
   have hj:j < 24:=by have:=isSt_iff.1 hy; have:=hT.len; omega
   have ai:=(isSt_iff.1 a2).1
   have bi:=(isSt_iff.1 b2).1
   exact and_bits (left_bit hj (by omega) hyA y1) (left_bit hj (by omega) hyA y2) hik
theorem micro_whole {T:ByteArray→Int→Int→Bool} {C:Ch} (h:chk T C=.ok) {n:Nat} (hW:WB C.sts (bitN n) 0) {H:List Nat} (hH:HOk C.sts H) (env:List Int) (ev:Int) :
 WB C.sts (stepS C.sts (bitN n) (entL C H ((siL C (leftN C n) (gaL C env ev n).1).map (·.num)))) 0:=by
 have hT:=tame_of h
 obtain ⟨ha,hm⟩:=siL_apt C (leftN C n) (gaL C env ev n).1
 refine stepS_whole hT hW (kept_of h hW hH (fun i hi=>?_) ?_)
 · obtain ⟨x,hx,rfl⟩:=List.mem_map.1 hi
   obtain ⟨_,h2,h3⟩:=hm x hx
   exact ⟨h3,gaL_src env ev C hT n hW _ h2⟩
 · rw [List.pairwise_map]
   unfold Apt at ha
   refine List.Pairwise.imp_of_mem (fun {a b} hka hkb hab=>?_) ha
   have h1:=hab.1
   unfold clB at h1
   rw [(hm a hka).1,(hm b hkb).1] at h1
   exact Decidable.not_not.1 (of_decide_eq_false h1)
open Go.ChangeShapes Go.WideShapes Go.ChangeAt Go.RowKit

section
variable {w0:World} {M:Nat→Option Obj} {t g:Nat} {vs vt:Value} {C:Ch} {w:World} {vh ve vi vo:Value} {X:Se}
theorem putH_same (X:Se):X.putH X.hist=X:=rfl
theorem hist_par {C:Ch} (hT:Tame C.sts) {k:Nat} (hk:k < C.sts.length) (hh:histB (stAt C.sts (k:Int)).kind=true):∃ q:Nat,(stAt C.sts (k:Int)).par=(q:Int)∧q < C.sts.length:=by
 have:=(isSt_iff.1 (hpar_of hT (k:Int) (isSt_of hk) hh).1)
 exact ⟨(stAt C.sts (k:Int)).par.toNat,by omega,by omega⟩
set_option maxHeartbeats 4000000 in
set_option maxRecDepth 100000 in
theorem record_any (hF:Fx w0 t vs vt C) (hS:SeAt w0 M t g vs vt C w vh ve vi vo X) (hHn:C.sts.length≤X.hist.length) (Q:Nat→Bool) :
 Calls Tryz.prog 89 #[.pointer (some ⟨g,0,none⟩),.int .u32 ((bset Q C.sts.length:Nat):Int)] w (SPost w0 M t g vs vt C (X.putH (recU C.sts Q X.a C.sts.length X.hist))):=by
 have hlen:=hF.tame.len
 have hta:=hF.tame
 obtain ⟨sA,scap,tA,tcap,rfl,rfl⟩:=hF.has.slices
 have HS:=Lib.hid hS
 have HF:=Lib.hid hF
 have HT:=Lib.hid hta
 obtain ⟨⟨x0,x1,x2,x3,x4⟩,-⟩:=hS.cells
 have HN:Hid (∀ m,C.sts.length≤(recU C.sts Q X.a m X.hist).length):=Lib.hid (fun m=>by rw [recU_len]; exact hHn)
 have HU:Hid (∀ m,recU C.sts Q X.a (m+1) X.hist=if histB (stAt C.sts (m:Int)).kind=true∧Q (stAt C.sts (m:Int)).par.toNat=true then (recU C.sts Q X.a m X.hist).set m (bset (actP C.sts X.a (m:Int)) C.sts.length) else recU C.sts Q X.a m X.hist):=Lib.hid (fun m=>rfl)
 have HU0:Hid (recU C.sts Q X.a 0 X.hist=X.hist):=Lib.hid rfl
 generalize recU C.sts Q X.a=U at *
 clear hF hS hta hHn
 go_enter Tryz.func89,Tryz.ntmps89
 go_wp2_with fail
 go_loopw [12] (fun i wr=>∃ (k:Nat) (vh2 ve2 vi2 vo2:Value),k≤C.sts.length∧i=.int .i64 (k:Int)∧Hid (SeAt w0 M t g (.slice sA C.sts.length scap) (.slice tA C.trs.length tcap) C wr vh2 ve2 vi2 vo2 (X.putH (U k X.hist)))) (fun i _=>C.sts.length - (intOf i).toNat)
 case atStart=>exact ⟨0,_,_,_,_,Nat.zero_le _,rfl,Lib.hid (by rw [HU0.out,putH_same]; exact HS.out)⟩
 case round =>
  clear HS HU0 x0 x1 x2 x3 x4
  obtain ⟨k,vh2,ve2,vi2,vo2,hk,rfl,HSK⟩:=hrel
  obtain ⟨wo,rfl⟩:∃ wo:World,wo=wr:=⟨_,rfl⟩
  have hu:=HU.out k
  by_cases hlt:k < C.sts.length
  · obtain ⟨b,o,cap',ui,ue,ux,hsl,_,hbl,hst,hhas⟩:=HF.out.has.st hlt
    injection hsl with e1 e2 e3
    subst e1
    obtain ⟨c0,c1,c2,c3,c4⟩:=hst.below HSK.out.below hbl
    obtain ⟨iA,icap,eA,ecap,xA,xcap,rfl,rfl,rfl⟩:=hhas.slices
    have HSB:=Lib.hid (HSK.out.after (below_box wo (stBox (stAt C.sts (k:Int)).kind (stAt C.sts (k:Int)).par (.slice iA (stAt C.sts (k:Int)).ini.length icap) (.slice eA (stAt C.sts (k:Int)).ent.length ecap) (.slice xA (stAt C.sts (k:Int)).exi.length xcap)))).drew
    have HBX:=Lib.hid (Blk.new wo 65 #[.int .i64 (stAt C.sts (k:Int)).kind,.int .i64 (stAt C.sts (k:Int)).par,.slice iA (stAt C.sts (k:Int)).ini.length icap,.slice eA (stAt C.sts (k:Int)).ent.length ecap,.slice xA (stAt C.sts (k:Int)).exi.length xcap]).drew
    have HAF:=Lib.hid (activeFor_any HF.out HSB.out k iA eA xA (stAt C.sts (k:Int)).ini.length icap (stAt C.sts (k:Int)).ent.length ecap (stAt C.sts (k:Int)).exi.length xcap)
    have HHB:=Lib.hid (isHistM_any (stAt C.sts (k:Int)).kind)
    cases hh:histB (stAt C.sts (k:Int)).kind with
    | false =>
     rw [hh,if_neg (by simp)] at hu
     rw [hh] at HHB
     have HUK:=Lib.hid hu
     have HSA:=Lib.hid (HSK.out.after (below_box wo (stBox (stAt C.sts (k:Int)).kind (stAt C.sts (k:Int)).par (.slice iA (stAt C.sts (k:Int)).ini.length icap) (.slice eA (stAt C.sts (k:Int)).ent.length ecap) (.slice xA (stAt C.sts (k:Int)).exi.length xcap))))
     generalize (stAt C.sts (k:Int)).kind=K at *
     generalize (stAt C.sts (k:Int)).par=P at *
     clear hst hhas e2 e3 hu hh HAF HSB
     go_wp2_with fail
     refine (HHB.out _).mono ?_
     rintro e w2 ⟨rfl,rfl⟩
     go_wp2_with fail
     go_roundw
     case rel=>exact ⟨k+1,_,_,_,_,by omega,by go_num,Lib.hid (by rw [HUK.out]; exact HSA.out)⟩
     case measure=>simp [intOf]; omega
    | true =>
     obtain ⟨q,hq,hql⟩:=hist_par HT.out hlt hh
     rw [hh,hq] at hu
     rw [hh] at HHB
     have hqn:(((q:Nat):Int)).toNat=q:=by simp
     rw [hqn] at hu
     have hne:=(and_test Q C.sts.length q (by omega) hql).2
     cases hQ:Q q with
     | false =>
      rw [hQ,if_neg (by simp)] at hu
      rw [hQ] at hne
      have HUK:=Lib.hid hu
      have HSA:=Lib.hid (HSK.out.after (below_box wo (stBox (stAt C.sts (k:Int)).kind (stAt C.sts (k:Int)).par (.slice iA (stAt C.sts (k:Int)).ini.length icap) (.slice eA (stAt C.sts (k:Int)).ent.length ecap) (.slice xA (stAt C.sts (k:Int)).exi.length xcap))))
      rw [hq] at c1 HSA
      clear hst hhas e2 e3 hu hh HAF HSB hQ HBX hqn
      go_wp2_with fail
      refine (HHB.out _).mono ?_
      rintro e w2 ⟨rfl,rfl⟩
      go_wp2_with fail
      refine (bitM_any q (by omega) _).mono ?_
      rintro e w2 ⟨rfl,rfl⟩
      go_wp2_with fail
      go_roundw
      case rel=>exact ⟨k+1,_,_,_,_,by omega,by go_num,Lib.hid (by rw [HUK.out]; exact HSA.out)⟩
      case measure=>simp [intOf]; omega
     | true =>
      rw [hQ,if_pos ⟨rfl,rfl⟩] at hu
      rw [hQ] at hne
      have HUK:=Lib.hid hu
      rw [hq] at c1 HSB HBX HAF
      have hNk:=HN.out k
      have hkl:k < (X.putH (U k X.hist)).hist.length:=by show k < (U k X.hist).length; omega
      obtain ⟨hB,hcap,cur,rfl,hle,hge,hblk,hc0,hf0⟩:=HSB.out.rows.hist.place hkl
      have HBK:=Lib.hid hblk
      have HGE:=Lib.hid hge
      have HNL:Hid (bset (actP C.sts X.a (k:Int)) C.sts.length < 4294967296):=Lib.hid (bset_u32 _ (by omega))
      obtain ⟨⟨y0,y1,y2,y3,y4⟩,-⟩:=blk5_facts HBX.out
      have y5:=HSB.out.cells.2.1
      clear hst hhas e2 e3 hu hh hQ hqn hc0 hf0 hblk hge hNk
      go_wp2_with fail
      refine (HHB.out _).mono ?_
      rintro e w2 ⟨rfl,rfl⟩
      go_wp2_with fail
      refine (bitM_any q (by omega) _).mono ?_
      rintro e w2 ⟨rfl,rfl⟩
      go_wp2_with fail
      refine anyD_start (fun W=>W.cell? ⟨g,5,none⟩=some (.slice (some ⟨hB,0,none⟩) (X.putH (U k X.hist)).hist.length hcap)∧(W.cell? ⟨wo.heap.size,0,none⟩=some (.int .i64 (stAt C.sts (k:Int)).kind)∧W.cell? ⟨wo.heap.size,1,none⟩=some (.int .i64 (q:Int))∧W.cell? ⟨wo.heap.size,2,none⟩=some (.slice iA (stAt C.sts (k:Int)).ini.length icap)∧W.cell? ⟨wo.heap.size,3,none⟩=some (.slice eA (stAt C.sts (k:Int)).ent.length ecap)∧W.cell? ⟨wo.heap.size,4,none⟩=some (.slice xA (stAt C.sts (k:Int)).exi.length xcap))) (fun i=>[10].contains i) (by kernel_rfl) ?_
      try simp only [Act.put,sx]
      generalize (wo.alloc (.cells #[.int .i64 (stAt C.sts (k:Int)).kind,.int .i64 (q:Int),.slice iA (stAt C.sts (k:Int)).ini.length icap,.slice eA (stAt C.sts (k:Int)).ent.length ecap,.slice xA (stAt C.sts (k:Int)).exi.length xcap] 65)).drew=w1 at *
      refine anyD_t 0 (.pointer (some ⟨g,0,none⟩)) ?_
      try simp only [Act.put,sx]
      refine anyD_t 1 (.pointer (some ⟨g,0,none⟩)) ?_
      try simp only [Act.put,sx]
      refine anyD_t 2 (.pointer (some ⟨g,4,none⟩)) ?_
      try simp only [Act.put,sx]
      refine anyD_t 3 (.pointer (some ⟨g,5,none⟩)) ?_
      try simp only [Act.put,sx]
      refine anyD_l 4 (.slice (some ⟨hB,0,none⟩) (X.putH (U k X.hist)).hist.length hcap) (⟨y5,y0,y1,y2,y3,y4⟩) ?_
      try simp only [Act.put,sx]
      refine anyD_t 5 (.int .i64 (k:Int)) ?_
      try simp only [Act.put,sx]
      refine anyD_t 6 (.pointer (some ⟨g,0,none⟩)) ?_
      try simp only [Act.put,sx]
      refine anyD_l 7 (.agg #[.int .i64 (stAt C.sts (k:Int)).kind,.int .i64 (q:Int),.slice iA (stAt C.sts (k:Int)).ini.length icap,.slice eA (stAt C.sts (k:Int)).ent.length ecap,.slice xA (stAt C.sts (k:Int)).exi.length xcap]) (⟨y5,y0,y1,y2,y3,y4⟩) ?_
      try simp only [Act.put,sx]
      refine anyD_one (i:=8) rfl rfl (by kernel_rfl) (fun K HK=>?_)
      go_simp
      refine HAF.out.mono ?_
      rintro e w3 ⟨rfl,hb3⟩
      have HS3:=Lib.hid (HSB.out.after hb3)
      have HBK3:=Lib.hid (HBK.out.below hb3 HBK.out.lt)
      obtain ⟨⟨z0,z1,z2,z3,z4⟩,-⟩:=blk5_facts (HBX.out.below hb3 HBX.out.lt)
      have z5:=HS3.out.cells.2.1
      have r0:=HBK3.out.cell k
      have f0:=HBK3.out.frozen k
      clear hb3
      go_simp
      refine HK.out _ _ (fun _ hS=>⟨z5,z0,z1,z2,z3,z4⟩) ?_
      clear HK K
      try simp only [Act.put,sx]
      refine anyD_t 9 (.pointer (some ⟨hB,k,none⟩)) ?_
      try simp only [Act.put,sx]
      obtain ⟨hB2,hcap2,cur2,hv2,-,-,-,hc1,hf1⟩:=HS3.out.rows.hist.place hkl
      injection hv2 with e1 e2 e3
      injection e1 with e1
      injection e1 with e1 e4
      subst e1
      have HS4:=Lib.hid (HS3.out.putHist HBK3.out HGE.out hkl HNL.out)
      clear r0 f0 e2 e3 e4
      refine anyD_one (i:=10) rfl rfl (by kernel_rfl) (fun K HK=>?_)
      go_simp
      go_simp
      refine HK.out _ _ (fun h=>absurd h (by decide)) ?_
      clear HK K
      try simp only [Act.put,sx]
      refine anyD_done (by kernel_rfl) ?_
      go_wp2_with fail
      go_roundw
      case rel=>exact ⟨k+1,_,_,_,_,by omega,by go_num,Lib.hid (by rw [HUK.out]; exact HS4.out)⟩
      case measure=>simp [intOf]; omega
  · obtain rfl:k=C.sts.length:=by omega
    go_wp2_with fail
    go_end0
    exact .of rfl rfl HSK.out
theorem bset_one {n k:Nat} (hk:k < n):bset (fun j=>decide (j=k)) n=2 ^ k:=by
 refine Nat.eq_of_testBit_eq fun i=>?_
 rw [bset_test,Nat.testBit_two_pow]
 by_cases hik:i=k
 · subst hik; simp [hk]
 · have h1:decide (k=i)=false:=by simpa using Ne.symm hik
   rw [h1]
   simp [hik]
theorem andNot_one (P:Nat→Bool) {n k:Nat} (hn:n≤31) (hk:k < n):bits .andNot .u32 ((bset P n:Nat):Int) ((2:Int) ^ k)=((bset (fun j=>P j && decide (j ≠ k)) n:Nat):Int):=by
 have h2:((2:Int) ^ k)=((bset (fun j=>decide (j=k)) n:Nat):Int):=by rw [bset_one hk]; simp
 rw [h2,andNot_sets P _ n hn]
 congr 1
 refine bset_congr n fun j _=>?_
 by_cases hjk:j=k <;> simp [hjk]
set_option maxHeartbeats 4000000 in
set_option maxRecDepth 100000 in
theorem leaveAll_any (hF:Fx w0 t vs vt C) (hS:SeAt w0 M t g vs vt C w vh ve vi vo X) (hHn:C.sts.length≤X.hist.length) {n:Nat} (hX:Lim n X) (hn:n≤8000) (Q:Nat→Bool) :
 Calls Tryz.prog 44 #[.pointer (some ⟨g,0,none⟩),.int .u32 ((bset Q C.sts.length:Nat):Int)] w (SPost w0 M t g vs vt C (lvS C.sts Q X)):=by
 have hlen:=hF.tame.len
 have HRC:=Lib.hid (record_any hF hS hHn Q)
 obtain ⟨sA,scap,tA,tcap,rfl,rfl⟩:=hF.has.slices
 have HF:=Lib.hid hF
 have HR:Hid (lvS C.sts Q X=offU C.sts Q C.sts.length (X.putH (recU C.sts Q X.a C.sts.length X.hist))):=Lib.hid rfl
 have HX:=Lib.hid (putH_lim hX (recU C.sts Q X.a C.sts.length X.hist))
 obtain ⟨Y,hY⟩:∃ Y,X.putH (recU C.sts Q X.a C.sts.length X.hist)=Y:=⟨_,rfl⟩
 rw [hY] at HRC HR HX
 have HU:Hid (∀ d,offU C.sts Q (d+1) Y=if Q (C.sts.length - 1 - d)=true then offS C.sts (C.sts.length - 1 - d) (offU C.sts Q d Y) else offU C.sts Q d Y):=Lib.hid fun d=>rfl
 have HUL:Hid (∀ d,Lim (n+d) (offU C.sts Q d Y)):=Lib.hid fun d=>offU_lim (fun s=>(hF.acts s).2.1) Q HX.out d
 have HU0:Hid (offU C.sts Q 0 Y=Y):=Lib.hid rfl
 rw [HR.out]
 generalize offU C.sts Q=U at *
 clear hF hS hX hY HR hHn
 go_enter Tryz.func44,Tryz.ntmps44
 go_wp2_with fail
 refine HRC.out.mono ?_
 rintro e w1 ⟨rfl,vh1,ve1,vi1,vo1,hs1⟩
 have HS1:=Lib.hid hs1
 obtain ⟨⟨x0,x1,x2,x3,x4⟩,-⟩:=hs1.cells
 clear hs1
 have hsub:IntKind.i64.wrap ((C.sts.length:Int) - 1)=(C.sts.length:Int) - 1:=by rw [IntKind.wrap_i64]; omega
 go_wp2_with fail
 go_loopw [4] (fun i wr=>∃ (d:Nat) (vh2 ve2 vi2 vo2:Value),d≤C.sts.length∧i=.int .i64 ((C.sts.length:Int) - 1 - (d:Int))∧Hid (SeAt w0 M t g (.slice sA C.sts.length scap) (.slice tA C.trs.length tcap) C wr vh2 ve2 vi2 vo2 (U d Y))) (fun i _=>(intOf i+1).toNat)
 case atStart=>exact ⟨0,_,_,_,_,Nat.zero_le _,by go_num,Lib.hid (by rw [HU0.out]; exact HS1.out)⟩
 case round =>
  clear HS1 HU0 x0 x1 x2 x3 x4 hsub
  obtain ⟨d,vh2,ve2,vi2,vo2,hd,rfl,HSK⟩:=hrel
  obtain ⟨wo,rfl⟩:∃ wo:World,wo=wr:=⟨_,rfl⟩
  have hu:=HU.out d
  by_cases hlt:d < C.sts.length
  · obtain ⟨k,hk⟩:∃ k,C.sts.length - 1 - d=k:=⟨_,rfl⟩
    have hkl:k < C.sts.length:=by omega
    have e1:(C.sts.length:Int) - 1 - (d:Int)=(k:Int):=by omega
    rw [e1]
    rw [hk] at hu
    have HK:=Lib.hid hk
    have HDL:=Lib.hid hlt
    have hge:decide (0≤(k:Int))=true:=by simp
    have hne:=(and_test Q C.sts.length k (by omega) hkl).2
    have HLK:=Lib.hid (HUL.out d)
    obtain ⟨⟨x0,x1,x2,x3,x4⟩,-⟩:=HSK.out.cells
    have hnx:IntKind.i64.wrap ((k:Int) - 1)=(k:Int) - 1:=by rw [IntKind.wrap_i64]; omega
    cases hq:Q k with
    | false =>
     rw [hq,if_neg (by simp)] at hu
     rw [hq] at hne
     have HUK:=Lib.hid hu
     clear hq hu hk hlt e1
     go_wp2_with fail
     refine (bitM_any k (by omega) _).mono ?_
     rintro e w2 ⟨rfl,rfl⟩
     go_wp2_with fail
     go_roundw
     case rel=>exact ⟨d+1,_,_,_,_,by have:=HDL.out; omega,by have:=HK.out; have:=HDL.out; congr 1; omega,Lib.hid (by rw [HUK.out]; exact HSK.out)⟩
     case measure=>simp [intOf]
    | true =>
     rw [hq,if_pos rfl] at hu
     rw [hq] at hne
     have HUK:=Lib.hid hu
     obtain ⟨b,o,cap',ui,ue,ux,hsl,_,hbl,hst,hhas⟩:=HF.out.has.st hkl
     injection hsl with e4 e5 e6
     subst e4
     obtain ⟨c0,c1,c2,c3,c4⟩:=hst.below HSK.out.below hbl
     obtain ⟨iA,icap,eA,ecap,xA,xcap,rfl,rfl,rfl⟩:=hhas.slices
     have HDO:=Lib.hid (doM_any HF.out HSK.out HLK.out (by omega) _ (stAt C.sts (k:Int)).exi (hhas.2.2.below HSK.out.below) (HF.out.acts (k:Int)).2.1 (HF.out.acts (k:Int)).2.2)
     obtain ⟨Z,hZ⟩:∃ Z,U d Y=Z:=⟨_,rfl⟩
     rw [hZ] at HSK HLK HDO HUK x4
     have HA:Hid ((doS (stAt C.sts (k:Int)).exi Z).a=Z.a):=Lib.hid rfl
     have hff:(fun j=>Z.a j && decide (j ≠ k))=fun j=>Z.a j && !decide (j=k):=by funext j; simp
     have HOF:Hid (offS C.sts k Z=(doS (stAt C.sts (k:Int)).exi Z).putA fun j=>Z.a j && !decide (j=k)):=Lib.hid (by rw [← hff]; rfl)
     have han:=andNot_one Z.a (n:=C.sts.length) (k:=k) (by omega) hkl
     rw [hff] at han
     have HAN:=Lib.hid han
     clear hff han
     generalize (stAt C.sts (k:Int)).exi.length=xl at *
     clear hq hu hk hlt e1 hst hhas e5 e6 hZ
     go_wp2_with fail
     refine (bitM_any k (by omega) _).mono ?_
     rintro e w2 ⟨rfl,rfl⟩
     go_wp2_with fail
     refine HDO.out.mono ?_
     rintro e w3 ⟨rfl,vh3,ve3,vi3,vo3,hs3⟩
     have HS3:=Lib.hid hs3
     clear hs3 x0 x1 x2 x3 x4 c0 c1 c2 c3 c4
     have y4:=HS3.out.drew.cells.1.2.2.2.2
     have z4:=HS3.out.drew.froz.1
     rw [HA.out] at y4
     have HS3D:=Lib.hid HS3.out.drew
     go_wp2_with fail
     refine anyD_start (fun W=>W.cell? ⟨g,4,none⟩=some (.int .u32 ((bset Z.a C.sts.length:Nat):Int))) (fun i=>[11].contains i) (by kernel_rfl) ?_
     try simp only [Act.put,sx]
     generalize w3.drew=w4 at *
     refine anyD_t 0 (.pointer (some ⟨g,0,none⟩)) ?_
     try simp only [Act.put,sx]
     refine anyD_t 1 (.pointer (some ⟨g,0,none⟩)) ?_
     try simp only [Act.put,sx]
     refine anyD_t 2 (.pointer (some ⟨g,4,none⟩)) ?_
     try simp only [Act.put,sx]
     refine anyD_t 3 (.pointer (some ⟨g,4,none⟩)) ?_
     try simp only [Act.put,sx]
     refine anyD_l 4 (.int .u32 ((bset Z.a C.sts.length:Nat):Int)) (y4) ?_
     try simp only [Act.put,sx]
     refine anyD_t 5 (.int .i64 (k:Int)) ?_
     try simp only [Act.put,sx]
     refine anyD_one (i:=6) rfl rfl (by kernel_rfl) (fun K HK=>?_)
     go_simp
     refine (bitM_any k (by omega) _).mono ?_
     rintro e w5 ⟨rfl,rfl⟩
     go_simp
     refine HK.out _ _ (fun _ hS=>y4) ?_
     clear HK K
     try simp only [Act.put,sx]
     refine anyD_one (i:=7) rfl rfl (by kernel_rfl) (fun K HK=>?_)
     go_simp
     rw [HAN.out]
     refine HK.out _ _ (fun _ hS=>y4) ?_
     clear HK K
     try simp only [Act.put,sx]
     refine anyD_t 8 (.pointer (some ⟨g,0,none⟩)) ?_
     try simp only [Act.put,sx]
     refine anyD_t 9 (.pointer (some ⟨g,4,none⟩)) ?_
     try simp only [Act.put,sx]
     refine anyD_t 10 (.pointer (some ⟨g,4,none⟩)) ?_
     try simp only [Act.put,sx]
     refine anyD_one (i:=11) rfl rfl (by kernel_rfl) (fun K HK=>?_)
     go_simp
     go_simp
     refine HK.out _ _ (fun h=>absurd h (by decide)) ?_
     clear HK K
     try simp only [Act.put,sx]
     refine anyD_done (by kernel_rfl) ?_
     have HS4:=Lib.hid (HS3D.out.putA fun j=>Z.a j && !decide (j=k))
     go_wp2_with fail
     go_roundw
     case rel=>exact ⟨d+1,_,_,_,_,by have:=HDL.out; omega,by have:=HK.out; have:=HDL.out; congr 1; omega,Lib.hid (by rw [HUK.out,HOF.out]; exact HS4.out)⟩
     case measure=>simp [intOf]
  · obtain rfl:d=C.sts.length:=by omega
    have hge:decide (0≤(C.sts.length:Int) - 1 - (C.sts.length:Int))=false:=decide_eq_false (by omega)
    go_wp2_with fail
    go_end0
    exact .of rfl rfl HSK.out
end
end Go.Proofs.YtgofpbdbeegoeaaGreatDoor
