/- The contract of the document's Whole, of any set: where it is told that it is whole, it is. -/
import Derived.Test.YtmhkpjcdkjnlnaaGreatDoorFUSwo
import Derived.Test.YtmhkpjcdkjnlnaaGreatDoorFUMsn
import Derived.Test.YtmhkpjcdkjnlnaaGreatDoorFUMtk
import Derived.Test.YtmhkpjcdkjnlnaaGreatDoorFUIdn
import Derived.Test.YtmhkpjcdkjnlnaaGreatDoorFUImem
namespace Go.Proofs.YtmhkpjcdkjnlnaaGreatDoor
open Go.ChangeShapes Go.WideShapes Go.ChangeAt Go.RowKit
set_option linter.unusedVariables false

theorem cntK_uniq {A:Nat→Bool}:∀ {L:List Int},cntK A L=1→∃ q ∈ L,hasS A q=true∧∀ k ∈ L,hasS A k=true→k=q
 | [],h=>by simp [cntK] at h
 | x :: L,h=>by
  unfold cntK at h
  rw [List.filter_cons] at h
  by_cases hx:hasS A x=true
  · rw [if_pos hx,List.length_cons] at h
    have hz:L.filter (fun x=>hasS A x)=[]:=List.eq_nil_of_length_eq_zero (by omega)
    refine ⟨x,List.mem_cons_self ..,hx,fun k hk hA=>?_⟩
    rcases List.mem_cons.1 hk with rfl | hk
    · rfl
    · exact absurd hA (List.filter_eq_nil_iff.1 hz k hk)
  · rw [if_neg hx] at h
    obtain ⟨q,h1,h2,h3⟩:=cntK_uniq (A:=A) (L:=L) h
    refine ⟨q,List.mem_cons_of_mem _ h1,h2,fun k hk hA=>?_⟩
    rcases List.mem_cons.1 hk with rfl | hk
    · exact absurd hA hx
    · exact h3 k hk hA
theorem cntK_full {A:Nat→Bool} {L:List Int} (h:cntK A L=L.length):∀ k ∈ L,hasS A k=true:=by
 unfold cntK at h
 exact List.filter_eq_self.1 (List.Sublist.eq_of_length List.filter_sublist h)

def SoAt (S:List St) (H:List Nat) (s:Nat):Prop:=∀ y:Nat,y < S.length→(stAt S (s:Int)).par≤(y:Int)→cloP S (stD S H (s:Int)) (stAt S (s:Int)).par y=true→((stAt S (s:Int)).kind=5→(y:Int)=(stAt S (s:Int)).par) →
 ((stAt S (y:Int)).kind=2→cntK (cloP S (stD S H (s:Int)) (stAt S (s:Int)).par) (kids S (y:Int))=1)∧((stAt S (y:Int)).kind=3→cntK (cloP S (stD S H (s:Int)) (stAt S (s:Int)).par) (kids S (y:Int))=(kids S (y:Int)).length)
def SoundP (S:List St) (H:List Nat):Prop:=(∀ s,s < H.length→GoodF S H s)∧∀ s,s < H.length→histAt H (s:Int) ≠ 0→SoAt S H s
theorem hist_len {H:List Nat} {s:Nat} (h:histAt H (s:Int) ≠ 0):s < H.length:=by
 rcases Nat.lt_or_ge s H.length with h1 | h1
 · exact h1
 · exact absurd (by unfold histAt; simp [List.getD,List.getElem?_eq_none h1]) h
theorem some_bit {h:Nat} (h0:h ≠ 0) (hl:h < 4294967296):∃ k,k < 32∧bitN h k=true:=by
 refine Classical.byContradiction fun hn=>h0 (Nat.eq_of_testBit_eq fun k=>?_)
 rw [Nat.zero_testBit]
 by_cases hk:k < 32
 · rw [Nat.testBit_eq_decide_div_mod_eq]
   cases hb:decide (h / 2 ^ k % 2=1) with
   | false=>rfl
   | true=>exact (hn ⟨k,hk,hb⟩).elim
 · have h2:(2:Nat) ^ 32≤2 ^ k:=Nat.pow_le_pow_right (by decide) (by omega)
   exact Nat.testBit_lt_two_pow (by omega)
theorem membU_in {P:Nat→Bool} {m k:Nat} (hk:k < m) (hP:P k=true):(k:Int) ∈ membU P m:=by
 unfold membU
 exact List.mem_map.2 ⟨k,List.mem_filter.2 ⟨List.mem_range.2 hk,hP⟩,rfl⟩
theorem membU_of {P:Nat→Bool} {m:Nat} {x:Int} (h:x ∈ membU P m):∃ k:Nat,x=(k:Int)∧k < m∧P k=true:=by
 unfold membU at h
 obtain ⟨k,hk,rfl⟩:=List.mem_map.1 h
 obtain ⟨h1,h2⟩:=List.mem_filter.1 hk
 exact ⟨k,rfl,List.mem_range.1 h1,h2⟩
theorem snd_of_sound {S:List St} (hT:Tame S) {H:List Nat} (hlt:∀ s:Nat,histAt H (s:Int) < 4294967296) (h:SoundP S H):SndH S H:=fun s hs hh h0=>by
 obtain ⟨hg,hso⟩:=h
 obtain ⟨_,hstd⟩:=good_std hT (fun s hs=>(hg s hs).weak)
 have hst:=hstd s hs hh
 obtain ⟨k,rfl,hk⟩:=isSt_nat hs
 have hkl:=hist_len h0
 have hG:=hg k hkl h0
 have hS:=hso k hkl h0
 unfold SoAt at hS
 rw [hst] at hS
 have hx:∀ x ∈ ofS S H (k:Int),OkX S (k:Int) x:=fun x hx=>hG.2.2 x (by rw [hst]; exact hx)
 refine ⟨fun x hm=>⟨(hx x hm).1,(hx x hm).2.1,(hx x hm).2.2.1⟩,fun h5 x hm=>(hx x hm).2.2.2.1 h5,fun h6 x hm=>?_,?_,fun y hy hpy hc h5 h2=>?_,fun y hy hpy hc h5 h3 q hq=>?_⟩
 · have:=(hx x hm).2.2.2.2 h6
   unfold leafK
   simpa using this
 · obtain ⟨b,hb,hbb⟩:=some_bit h0 (hlt k)
   rw [← hst,stD_set h0]
   intro hc
   have:=membU_in hb hbb
   rw [hc] at this
   cases this
 · obtain ⟨j,rfl,hj⟩:=isSt_nat hy
   rw [hasS_nat] at hc
   exact cntK_uniq ((hS j hj hpy hc h5).1 h2)
 · obtain ⟨j,rfl,hj⟩:=isSt_nat hy
   rw [hasS_nat] at hc
   exact cntK_full ((hS j hj hpy hc h5).2 h3) q hq
theorem sound_of_snd {S:List St} (hT:Tame S) {H:List Nat} (hin:∀ s:Nat,histAt H (s:Int) ≠ 0→s < S.length∧histB (stAt S (s:Int)).kind=true∧∀ k,k < 32→bitN (histAt H (s:Int)) k=true→k < S.length) (h:SndH S H):SoundP S H:=by
 have hst:∀ s:Nat,histAt H (s:Int) ≠ 0→stD S H (s:Int)=ofS S H (s:Int):=fun s h0=>by
  obtain ⟨h1,h2,h3⟩:=hin s h0
  have hcut:=membU_cut S (bitN (histAt H (s:Int))) 32 (by have:=hT.len; omega) (fun x hx=>by
   obtain ⟨k,rfl,hk,hb⟩:=membU_of hx
   exact isSt_of (h3 k hk hb))
  rw [stD_set h0,hcut]
  unfold ofS
  rw [if_neg (by rw [isSt_of h1]; simp),if_neg (by rw [h2]; simp),if_pos h0]
 refine ⟨fun s hs h0=>?_,fun s hs h0=>?_⟩
 · obtain ⟨h1,h2,h3⟩:=hin s h0
   have hr:=h (s:Int) (isSt_of h1) h2 h0
   refine ⟨h1,h2,fun x hx=>?_⟩
   rw [hst s h0] at hx
   obtain ⟨x1,x2,x3⟩:=hr.real x hx
   refine ⟨x1,x2,x3,fun h5=>hr.kid h5 x hx,fun h6=>?_⟩
   have:=hr.leaf h6 x hx
   unfold leafK at this
   simpa using this
 · obtain ⟨h1,h2,h3⟩:=hin s h0
   have hr:=h (s:Int) (isSt_of h1) h2 h0
   intro y hy hpy hc h5
   rw [hst s h0] at hc ⊢
   have hys:=isSt_of hy
   rw [← hasS_nat (cloP S (ofS S H (s:Int)) (stAt S (s:Int)).par) y] at hc
   refine ⟨fun h2'=>?_,fun h3'=>cntK_all (hr.three _ hys hpy hc h5 h3')⟩
   obtain ⟨q,q1,q2,q3⟩:=hr.two _ hys hpy hc h5 h2'
   exact cntK_one (kids_nodup S (y:Int)) q1 q2 q3
theorem bset_has {P:Nat→Bool} {m k:Nat} (hk:k < m):bitN (bset P m) k=P k:=by
 unfold bitN
 rw [bset_bit P m k hk]
 cases P k <;> simp
theorem of_bset {S:List St} {H:List Nat} {s:Int} {P:Nat→Bool} (hs:isSt S s=true) (hh:histB (stAt S s).kind=true) (h:histAt H s=bset P S.length) (hne:memb S P ≠ []):histAt H s ≠ 0∧ofS S H s=memb S P:=by
 have hm:memb S (bitN (bset P S.length))=memb S P:=by
  unfold memb
  congr 1
  refine List.filter_congr fun k hk=>?_
  exact bset_has (List.mem_range.1 hk)
 have h0:bset P S.length ≠ 0:=fun hc=>by
  obtain ⟨x,hx⟩:=List.exists_mem_of_ne_nil _ hne
  rw [← hm] at hx
  obtain ⟨_,h2⟩:=memb_iff.1 hx
  rw [hc] at h2
  simp [bitN] at h2
 refine ⟨by rw [h]; exact h0,?_⟩
 unfold ofS
 rw [if_neg (by rw [hs]; simp),if_neg (by rw [hh]; simp),if_pos (by rw [h]; exact h0),h,hm]
theorem bset_in {P:Nat→Bool} {m k:Nat} (h:bitN (bset P m) k=true):k < m:=by
 refine Classical.byContradiction fun hc=>?_
 unfold bitN at h
 rw [Nat.div_eq_of_lt (Nat.lt_of_lt_of_le (bset_lt P m) (Nat.pow_le_pow_right (by decide) (by omega)))] at h
 simp at h
theorem sound_step {T:ByteArray→Int→Int→Bool} {C:Ch} (h:chk T C=.ok) {A:Nat→Bool} {H H':List Nat} (hW:WB C.sts A 0) (hH:SndH C.sts H)
 (hn:∀ s,isSt C.sts s=true→histB (stAt C.sts s).kind=true→histAt H' s=histAt H s ∨ (hasS A (stAt C.sts s).par=true∧histAt H' s=bset (pastP C.sts A s) C.sts.length)):SndH C.sts H':=by
 have hT:=tame_of h
 refine snd_step hT (kinds_of h) hW hH (hpar_of hT) fun s hs hh=>?_
 rcases hn s hs hh with he | ⟨hA,he⟩
 · exact .inl he
 · have hp:=hpar_of hT s hs hh
   exact .inr ⟨hA,(of_bset hs hh he (snd_past hT (kinds_of h) hW hs hh hp.1 hp.2 hA).some).2⟩

theorem pad_at (n:Nat) (H:List Nat) (s:Int):histAt (padH n H) s=histAt H s:=by
 unfold histAt padH
 rw [List.getD_eq_getElem?_getD,List.getD_eq_getElem?_getD]
 rcases Nat.lt_or_ge s.toNat H.length with h | h
 · rw [List.getElem?_append_left h]
 · rw [List.getElem?_append_right h,List.getElem?_eq_none h]
   rcases Nat.lt_or_ge (s.toNat - H.length) (n - H.length) with h2 | h2
   · rw [List.getElem?_replicate_of_lt h2]; rfl
   · rw [List.getElem?_eq_none (by rw [List.length_replicate]; exact h2)]
theorem rec_at (S:List St) (Q a:Nat→Bool) (H:List Nat) (k:Nat):histAt (recU S Q a S.length H) (k:Int)=if k < H.length∧k < S.length∧histB (stAt S (k:Int)).kind=true∧Q (stAt S (k:Int)).par.toNat=true then bset (actP S a (k:Int)) S.length else histAt H (k:Int):=by
 unfold histAt
 rw [Int.toNat_natCast]
 rcases Nat.lt_or_ge k H.length with h | h
 · rw [recU_at S Q a H S.length k h]
   by_cases hc:k < S.length∧histB (stAt S (k:Int)).kind=true∧Q (stAt S (k:Int)).par.toNat=true
   · rw [if_pos hc,if_pos ⟨h,hc⟩]
   · rw [if_neg hc,if_neg (fun hh=>hc hh.2)]
 · rw [if_neg (fun hh=>by omega),List.getD_eq_getElem?_getD,List.getD_eq_getElem?_getD,List.getElem?_eq_none (by rw [recU_len]; exact h),List.getElem?_eq_none h]
theorem has_natI {A:Nat→Bool} (k:Nat):hasS A (k:Int)=A k:=by simp [hasS]
theorem left_bitI {C:Ch} {i:Int} {n0 k:Nat} (h:bitN (leftN C n0 i) k=true):bitN n0 k=true∧cIn C.sts (k:Int) (rchL C i)=true∧rchL C i ≠ -1:=by
 unfold leftN at h
 split at h
 · rw [bitN_zero'] at h; cases h
 · rename_i hr
   have hk:=bset_in h
   rw [bset_has hk] at h
   unfold leftP at h
   rw [Bool.and_eq_true] at h
   exact ⟨h.1,h.2,hr⟩
theorem left_bitJ {C:Ch} {i:Int} {n0 k:Nat} (hk:k < 24) (h1:bitN n0 k=true) (h2:cIn C.sts (k:Int) (rchL C i)=true) (h3:rchL C i ≠ -1):bitN (leftN C n0 i) k=true:=by
 unfold leftN
 rw [if_neg h3,bset_has hk]
 unfold leftP
 rw [h1,h2]
 rfl
theorem leftQ_iff {C:Ch} {n0:Nat} {l:List Int} {m k:Nat} (hin:∀ i ∈ l,∃ j:Nat,i=(j:Int)∧j < m):leftQ C n0 l m k=true ↔ ∃ i ∈ l,bitN (leftN C n0 i) k=true:=by
 unfold leftQ
 rw [List.any_eq_true]
 constructor
 · rintro ⟨j,hj,h⟩
   rw [Bool.and_eq_true,List.contains_iff_mem] at h
   exact ⟨_,h.1,h.2⟩
 · rintro ⟨i,hi,h⟩
   obtain ⟨j,rfl,hj⟩:=hin i hi
   exact ⟨j,List.mem_range.2 hj,by rw [Bool.and_eq_true,List.contains_iff_mem]; exact ⟨hi,h⟩⟩
theorem entQ_iff {C:Ch} {H:List Nat} {l:List Int} {m k:Nat} (hin:∀ i ∈ l,∃ j:Nat,i=(j:Int)∧j < m):entQ C H l m k=true ↔ ∃ i ∈ l,(trAt C.trs i).tgts ≠ []∧(pSet C.sts H (rchL C i) (trAt C.trs i).tgts).a k=true:=by
 unfold entQ
 rw [List.any_eq_true]
 constructor
 · rintro ⟨j,hj,h⟩
   rw [Bool.and_eq_true,Bool.and_eq_true,List.contains_iff_mem,decide_eq_true_eq] at h
   exact ⟨_,h.2.1,h.1,h.2.2⟩
 · rintro ⟨i,hi,h1,h2⟩
   obtain ⟨j,rfl,hj⟩:=hin i hi
   exact ⟨j,List.mem_range.2 hj,by rw [Bool.and_eq_true,Bool.and_eq_true,List.contains_iff_mem,decide_eq_true_eq]; exact ⟨h1,hi,h2⟩⟩
theorem act_past {S:List St} (hT:Tame S) {A:Nat→Bool} (hW:WB S A 0) (h:Int):bset (actP S A h) S.length=bset (pastP S A h) S.length:=by
 refine bset_congr S.length fun k hk=>?_
 unfold actP pastP
 by_cases h5:(stAt S h).kind=5
 · rw [if_pos h5,if_pos h5]
   cases hA:A k with
   | false=>simp
   | true =>
    have hh:histB (stAt S (k:Int)).kind=false:=by
     refine (hW.2 (k:Int) (isSt_of hk) (by rw [has_natI]; exact hA) ?_).1
     rcases Nat.eq_zero_or_pos k with h0 | h0
     · left; subst h0; rfl
     · right; exact hT.all _ (isSt_of hk) (by omega)
    have hk2:(kids S (stAt S h).par).contains (k:Int)=decide ((stAt S (k:Int)).par=(stAt S h).par):=by
     rw [Bool.eq_iff_iff,List.contains_iff_mem,decide_eq_true_eq]
     unfold kids kidsU
     rw [List.mem_map]
     constructor
     · rintro ⟨j,hj,he⟩
       obtain rfl:j=k:=by omega
       have:=(List.mem_filter.1 hj).2
       unfold kidB at this
       rw [Bool.and_eq_true,decide_eq_true_eq] at this
       exact this.1
     · intro hp
       exact ⟨k,List.mem_filter.2 ⟨List.mem_range.2 hk,by unfold kidB; rw [hh,hp]; simp⟩,rfl⟩
    rw [hk2]
    simp
 · rw [if_neg h5,if_neg h5,Bool.and_assoc]
theorem stp_whole {C:Ch} (h:chk hasTB C=.ok) {n0:Nat} (hn0:bset (bitN n0) C.sts.length=n0) (hW:WB C.sts (bitN n0) 0) {H:List Nat} (hlt:∀ x ∈ H,x < 4294967296) (hS:SoundP C.sts H) (env:List Int) (ev:Int) {l:List Int}
 (hl:l=(siL C (leftN C n0) (gaL C env ev n0).1).map (·.num)) (e2 i2:List Int) (st:Int) :
 WB C.sts (stpS C l ⟨bitN n0,padH C.sts.length H,e2,i2,st,[]⟩).a 0∧SoundP C.sts (stpS C l ⟨bitN n0,padH C.sts.length H,e2,i2,st,[]⟩).hist:=by
 have hT:=tame_of h
 have hin:∀ i ∈ l,isTr C.trs i=true:=fun i hi=>by
  subst hl
  obtain ⟨x,hx,rfl⟩:=List.mem_map.1 hi
  exact ((siL_apt C (leftN C n0) (gaL C env ev n0).1).2 x hx).2.2
 have hin2:∀ i ∈ l,∃ j:Nat,i=(j:Int)∧j < C.trs.length:=fun i hi=>isTr_nat (hin i hi)
 obtain ⟨X,hX⟩:∃ X:Se,(⟨bitN n0,padH C.sts.length H,e2,i2,st,[]⟩:Se)=X:=⟨_,rfl⟩
 have hXa:X.a=bitN n0:=by rw [← hX]
 have hXh:X.hist=padH C.sts.length H:=by rw [← hX]
 rw [hX]
 have hH':(stpS C l X).hist=recU C.sts (leftQ C n0 l C.trs.length) (bitN n0) C.sts.length (padH C.sts.length H):=by rw [stpS_hist,hXa,hXh,hn0]
 have hpl:C.sts.length≤(padH C.sts.length H).length:=by rw [padH_len]; omega
 have hat:∀ k:Nat,histAt (stpS C l X).hist (k:Int)=if k < C.sts.length∧histB (stAt C.sts (k:Int)).kind=true∧leftQ C n0 l C.trs.length (stAt C.sts (k:Int)).par.toNat=true then bset (actP C.sts (bitN n0) (k:Int)) C.sts.length else histAt H (k:Int):=fun k=>by
  rw [hH',rec_at,pad_at]
  by_cases hc:k < C.sts.length∧histB (stAt C.sts (k:Int)).kind=true∧leftQ C n0 l C.trs.length (stAt C.sts (k:Int)).par.toNat=true
  · rw [if_pos ⟨by omega,hc⟩,if_pos hc]
  · rw [if_neg (fun hh=>hc hh.2),if_neg hc]
 have hlt':∀ s:Nat,histAt H (s:Int) < 4294967296:=fun s=>by
  unfold histAt
  rw [List.getD_eq_getElem?_getD]
  rcases Nat.lt_or_ge (s:Int).toNat H.length with h1 | h1
  · rw [List.getElem?_eq_getElem h1]; exact hlt _ (List.getElem_mem h1)
  · rw [List.getElem?_eq_none h1]; decide
 have hsnd:=snd_of_sound hT hlt' hS
 have hsnd':SndH C.sts (stpS C l X).hist:=sound_step h hW hsnd fun s hs hh=>by
  obtain ⟨k,rfl,hk⟩:=isSt_nat hs
  rw [hat k]
  by_cases hc:k < C.sts.length∧histB (stAt C.sts (k:Int)).kind=true∧leftQ C n0 l C.trs.length (stAt C.sts (k:Int)).par.toNat=true
  · rw [if_pos hc]
    right
    obtain ⟨i,hi,hb⟩:=(leftQ_iff hin2).1 hc.2.2
    obtain ⟨q,hq,hql⟩:=hist_par hT hk hh
    have hbq:=(left_bitI hb).1
    rw [hq] at hbq ⊢
    rw [Int.toNat_natCast] at hbq
    exact ⟨by rw [has_natI]; exact hbq,act_past hT hW _⟩
  · rw [if_neg hc]
    exact .inl rfl
 have hS':SoundP C.sts (stpS C l X).hist:=by
  refine sound_of_snd hT (fun s h0=>?_) hsnd'
  rw [hat s] at h0 ⊢
  by_cases hc:s < C.sts.length∧histB (stAt C.sts (s:Int)).kind=true∧leftQ C n0 l C.trs.length (stAt C.sts (s:Int)).par.toNat=true
  · rw [if_pos hc]
    exact ⟨hc.1,hc.2.1,fun k _ hb=>bset_in hb⟩
  · rw [if_neg hc] at h0 ⊢
    obtain ⟨g1,g2,g3⟩:=hS.1 s (hist_len h0) h0
    refine ⟨g1,g2,fun k hk hb=>?_⟩
    have hm:(k:Int) ∈ stD C.sts H (s:Int):=by unfold stD; rw [if_pos h0]; exact membU_in hk hb
    have:=isSt_iff.1 (g3 _ hm).1
    omega
 refine ⟨?_,hS'⟩
 have hG:=(good_std hT (fun s hs=>(hS'.1 s hs).weak)).1
 have hWB:=micro_whole h hW (hok_of_snd hT hsnd') env ev
 rw [← hl] at hWB
 refine WB.congr hT hWB fun y hy=>?_
 have hyS:isSt C.sts y=true:=by
  rcases hy with rfl | hy
  · exact isSt_iff.2 ⟨by omega,by have:=hT.pos; omega⟩
  · exact (cIn_range hy).2.2
 obtain ⟨k,rfl,hk⟩:=isSt_nat hyS
 rw [has_natI,has_natI,stpS_a C l X hk,hXa,hn0]
 have hlen:=hT.len
 rw [Bool.eq_iff_iff]
 unfold stepS entL
 rw [Bool.or_eq_true,Bool.or_eq_true,Bool.and_eq_true,Bool.and_eq_true,Bool.not_eq_true',Bool.not_eq_true']
 have hE:entQ C (stpS C l X).hist l C.trs.length k=true ↔ (((l.filter fun i=>decide ((trAt C.trs i).tgts ≠ [])).map fun i=>(rchL C i,dSet C.sts (stpS C l X).hist (rchL C i) (trAt C.trs i).tgts)).any fun p=>p.2 k)=true:=by
  rw [entQ_iff hin2,List.any_eq_true]
  constructor
  · rintro ⟨i,hi,h1,h2⟩
    exact ⟨_,List.mem_map.2 ⟨i,List.mem_filter.2 ⟨hi,by simpa using h1⟩,rfl⟩,by rw [set_same hT hG] at h2; exact h2⟩
  · rintro ⟨p,hp,h2⟩
    obtain ⟨i,hi,rfl⟩:=List.mem_map.1 hp
    obtain ⟨h3,h4⟩:=List.mem_filter.1 hi
    exact ⟨i,h3,by simpa using h4,by rw [set_same hT hG]; exact h2⟩
 have hL:bitN n0 k=true→(leftQ C n0 l C.trs.length k=false ↔ (((l.filter fun i=>decide ((trAt C.trs i).tgts ≠ [])).map fun i=>(rchL C i,dSet C.sts (stpS C l X).hist (rchL C i) (trAt C.trs i).tgts)).any fun p=>cIn C.sts (k:Int) p.1)=false):=fun hb=>by
  rw [← Bool.not_eq_true,← Bool.not_eq_true,leftQ_iff hin2,List.any_eq_true]
  refine not_congr ⟨?_,?_⟩
  · rintro ⟨i,hi,h1⟩
    obtain ⟨_,h2,h3⟩:=left_bitI h1
    refine ⟨_,List.mem_map.2 ⟨i,List.mem_filter.2 ⟨hi,?_⟩,rfl⟩,h2⟩
    rw [decide_eq_true_eq]
    intro ht
    refine h3 ?_
    unfold rchL trOf
    rw [if_pos (hin i hi)]
    unfold rchT
    rw [if_pos (by rw [ht]; rfl)]
  · rintro ⟨p,hp,h2⟩
    obtain ⟨i,hi,rfl⟩:=List.mem_map.1 hp
    obtain ⟨h3,h4⟩:=List.mem_filter.1 hi
    rw [decide_eq_true_eq] at h4
    have hr:=isSt_iff.1 (reach_of h (hin i h3) h4).2.1
    exact ⟨i,h3,left_bitJ (by omega) hb h2 (by omega)⟩
 constructor
 · rintro (⟨h1,h2⟩ | h1)
   · exact .inl ⟨h1,(hL h1).1 h2⟩
   · exact .inr (hE.1 h1)
 · rintro (⟨h1,h2⟩ | h1)
   · exact .inl ⟨h1,(hL h1).2 h2⟩
   · exact .inr (hE.2 h1)

theorem hist_zero (n:Nat) (s:Int):histAt (List.replicate n 0) s=0:=by
 unfold histAt
 rw [List.getD_eq_getElem?_getD]
 rcases Nat.lt_or_ge s.toNat n with h | h
 · rw [List.getElem?_replicate_of_lt h]; rfl
 · rw [List.getElem?_eq_none (by rw [List.length_replicate]; exact h)]; rfl
theorem good_zero (S:List St) (n:Nat):∀ s,s < (List.replicate n 0).length→GoodAt S (List.replicate n 0) s:=fun s _ h=>absurd (hist_zero n s) h
def beg (C:Ch):Se:=⟨fun _=>false,List.replicate C.sts.length 0,List.replicate C.vars.toNat 0,[],1,[]⟩
def fstS (C:Ch):Se :=
 let X1:=enS C.sts 0 (beg C)
 entU C.sts (fun k=>(pSet C.sts X1.hist 0 (stAt C.sts 0).ini).a k && !X1.a k) C.sts.length X1
theorem beg_lim {C:Ch} (hv:0≤C.vars∧C.vars≤8):Lim 0 (beg C):=by
 refine ⟨?_,fun x hx=>?_,?_,?_⟩
 · show (List.replicate C.vars.toNat (0:Int)).length≤1000
   rw [List.length_replicate]
   omega
 · have hx:x ∈ List.replicate C.vars.toNat (0:Int):=hx
   rw [List.eq_of_mem_replicate hx]
   exact ⟨by decide,by decide⟩
 · show ([]:List Ou).length≤_
   simp
 · show ([]:List Int).length≤_
   simp
end Go.Proofs.YtmhkpjcdkjnlnaaGreatDoor
