/- What the document's Sound asks, and SndH: they are the same of histories whose sets hold only states. No function is called in this text. -/
import Derived.Test.YtgofpbdbeegoeaaGreatDoorFWMgd
import Derived.Test.YtgofpbdbeegoeaaGreatDoorFWMwo
import Derived.Test.YtgofpbdbeegoeaaGreatDoorFWIrc
import Derived.Test.YtgofpbdbeegoeaaGreatDoorFWIlv
import Derived.Test.YtgofpbdbeegoeaaGreatDoorFWIsp
import Derived.Test.YtgofpbdbeegoeaaGreatDoorFWEstepl
import Derived.Test.YtgofpbdbeegoeaaGreatDoorFWHpure
import Derived.Test.YtgofpbdbeegoeaaGreatDoorFWSbl
import Derived.Test.YtgofpbdbeegoeaaGreatDoorFWIbf
import Derived.Test.YtgofpbdbeegoeaaGreatDoorFWIze
import Derived.Test.YtgofpbdbeegoeaaGreatDoorFWArw
import Derived.Test.YtgofpbdbeegoeaaGreatDoorFWCact
import Derived.Test.YtgofpbdbeegoeaaGreatDoorFWPlev
import Derived.Deep.RegionWith
import Derived.Test.YtgofpbdbeegoeaaGreatDoorFWTmay
import Derived.Test.YtgofpbdbeegoeaaGreatDoorFWZlaid
import Derived.Test.YtgofpbdbeegoeaaGreatDoorFWIst
import Derived.Test.YtgofpbdbeegoeaaGreatDoorFWCarg
namespace Go.Proofs.YtgofpbdbeegoeaaGreatDoor
set_option linter.unusedVariables false

def SoAt (S:List St) (H:List Nat) (s:Nat):Prop:=∀ y:Nat,y < S.length→(stAt S (s:Int)).par≤(y:Int)→cloP S (stD S H (s:Int)) (stAt S (s:Int)).par y=true→((stAt S (s:Int)).kind=5→(y:Int)=(stAt S (s:Int)).par) →
 ((stAt S (y:Int)).kind=2→cntK (cloP S (stD S H (s:Int)) (stAt S (s:Int)).par) (kids S (y:Int))=1)∧((stAt S (y:Int)).kind=3→cntK (cloP S (stD S H (s:Int)) (stAt S (s:Int)).par) (kids S (y:Int))=(kids S (y:Int)).length)
def SoundP (S:List St) (H:List Nat):Prop:=(∀ s,s < H.length→GoodF S H s)∧∀ s,s < H.length→histAt H (s:Int) ≠ 0→SoAt S H s
theorem hist_len {H:List Nat} {s:Nat} (h:histAt H (s:Int) ≠ 0):s < H.length:=by
 rcases Nat.lt_or_ge s H.length with h1 | h1
 · exact h1
 · exact absurd (by unfold histAt; simp [List.getD,List.getElem?_eq_none h1]) h
theorem some_bit {h:Nat} (h0:h ≠ 0) (hl:h < 4294967296):∃ k,k < 32∧bitN h k=true:=by
 refine Classical.byContradiction fun hn=>h0 (Nat.eq_of_testBit_eq fun k=>?_)
 rw [Nat.zero_testBit]
 by_cases hk:k < 32
 · rw [Nat.testBit_eq_decide_div_mod_eq]
   cases hb:decide (h / 2 ^ k % 2=1) with
   | false=>rfl
   | true=>exact (hn ⟨k,hk,hb⟩).elim
 · have h2:(2:Nat) ^ 32≤2 ^ k:=Nat.pow_le_pow_right (by decide) (by omega)
   exact Nat.testBit_lt_two_pow (by omega)
theorem membU_in {P:Nat→Bool} {m k:Nat} (hk:k < m) (hP:P k=true):(k:Int) ∈ membU P m:=by
 unfold membU
 exact List.mem_map.2 ⟨k,List.mem_filter.2 ⟨List.mem_range.2 hk,hP⟩,rfl⟩
theorem membU_of {P:Nat→Bool} {m:Nat} {x:Int} (h:x ∈ membU P m):∃ k:Nat,x=(k:Int)∧k < m∧P k=true:=by
 unfold membU at h
 obtain ⟨k,hk,rfl⟩:=List.mem_map.1 h
 obtain ⟨h1,h2⟩:=List.mem_filter.1 hk
 exact ⟨k,rfl,List.mem_range.1 h1,h2⟩
theorem snd_of_sound {S:List St} (hT:Tame S) {H:List Nat} (hlt:∀ s:Nat,histAt H (s:Int) < 4294967296) (h:SoundP S H):SndH S H:=fun s hs hh h0=>by
 obtain ⟨hg,hso⟩:=h
 obtain ⟨_,hstd⟩:=good_std hT (fun s hs=>(hg s hs).weak)
 have hst:=hstd s hs hh
 obtain ⟨k,rfl,hk⟩:=isSt_nat hs
 have hkl:=hist_len h0
 have hG:=hg k hkl h0
 have hS:=hso k hkl h0
 unfold SoAt at hS
 rw [hst] at hS
 have hx:∀ x ∈ ofS S H (k:Int),OkX S (k:Int) x:=fun x hx=>hG.2.2 x (by rw [hst]; exact hx)
 refine ⟨fun x hm=>⟨(hx x hm).1,(hx x hm).2.1,(hx x hm).2.2.1⟩,fun h5 x hm=>(hx x hm).2.2.2.1 h5,fun h6 x hm=>?_,?_,fun y hy hpy hc h5 h2=>?_,fun y hy hpy hc h5 h3 q hq=>?_⟩
 · have:=(hx x hm).2.2.2.2 h6
   unfold leafK
   simpa using this
 · obtain ⟨b,hb,hbb⟩:=some_bit h0 (hlt k)
   rw [← hst,stD_set h0]
   intro hc
   have:=membU_in hb hbb
   rw [hc] at this
   cases this
 · obtain ⟨j,rfl,hj⟩:=isSt_nat hy
   rw [hasS_nat] at hc
   exact cntK_uniq ((hS j hj hpy hc h5).1 h2)
 · obtain ⟨j,rfl,hj⟩:=isSt_nat hy
   rw [hasS_nat] at hc
   exact cntK_full ((hS j hj hpy hc h5).2 h3) q hq
theorem sound_of_snd {S:List St} (hT:Tame S) {H:List Nat} (hin:∀ s:Nat,histAt H (s:Int) ≠ 0→s < S.length∧histB (stAt S (s:Int)).kind=true∧∀ k,k < 32→bitN (histAt H (s:Int)) k=true→k < S.length) (h:SndH S H):SoundP S H:=by
 have hst:∀ s:Nat,histAt H (s:Int) ≠ 0→stD S H (s:Int)=ofS S H (s:Int):=fun s h0=>by
  obtain ⟨h1,h2,h3⟩:=hin s h0
  have hcut:=membU_cut S (bitN (histAt H (s:Int))) 32 (by have:=hT.len; omega) (fun x hx=>by
   obtain ⟨k,rfl,hk,hb⟩:=membU_of hx
   exact isSt_of (h3 k hk hb))
  rw [stD_set h0,hcut]
  unfold ofS
  rw [if_neg (by rw [isSt_of h1]; simp),if_neg (by rw [h2]; simp),if_pos h0]
 refine ⟨fun s hs h0=>?_,fun s hs h0=>?_⟩
 · obtain ⟨h1,h2,h3⟩:=hin s h0
   have hr:=h (s:Int) (isSt_of h1) h2 h0
   refine ⟨h1,h2,fun x hx=>?_⟩
   rw [hst s h0] at hx
   obtain ⟨x1,x2,x3⟩:=hr.real x hx
   refine ⟨x1,x2,x3,fun h5=>hr.kid h5 x hx,fun h6=>?_⟩
   have:=hr.leaf h6 x hx
   unfold leafK at this
   simpa using this
 · obtain ⟨h1,h2,h3⟩:=hin s h0
   have hr:=h (s:Int) (isSt_of h1) h2 h0
   intro y hy hpy hc h5
   rw [hst s h0] at hc ⊢
   have hys:=isSt_of hy
   rw [← hasS_nat (cloP S (ofS S H (s:Int)) (stAt S (s:Int)).par) y] at hc
   refine ⟨fun h2'=>?_,fun h3'=>cntK_all (hr.three _ hys hpy hc h5 h3')⟩
   obtain ⟨q,q1,q2,q3⟩:=hr.two _ hys hpy hc h5 h2'
   exact cntK_one (kids_nodup S (y:Int)) q1 q2 q3
theorem bset_has {P:Nat→Bool} {m k:Nat} (hk:k < m):bitN (bset P m) k=P k:=by
 unfold bitN
 rw [bset_bit P m k hk]
 cases P k <;> simp
theorem of_bset {S:List St} {H:List Nat} {s:Int} {P:Nat→Bool} (hs:isSt S s=true) (hh:histB (stAt S s).kind=true) (h:histAt H s=bset P S.length) (hne:memb S P ≠ []):histAt H s ≠ 0∧ofS S H s=memb S P:=by
 have hm:memb S (bitN (bset P S.length))=memb S P:=by
  unfold memb
  congr 1
  refine List.filter_congr fun k hk=>?_
  exact bset_has (List.mem_range.1 hk)
 have h0:bset P S.length ≠ 0:=fun hc=>by
  obtain ⟨x,hx⟩:=List.exists_mem_of_ne_nil _ hne
  rw [← hm] at hx
  obtain ⟨_,h2⟩:=memb_iff.1 hx
  rw [hc] at h2
  simp [bitN] at h2
 refine ⟨by rw [h]; exact h0,?_⟩
 unfold ofS
 rw [if_neg (by rw [hs]; simp),if_neg (by rw [hh]; simp),if_pos (by rw [h]; exact h0),h,hm]
theorem bset_in {P:Nat→Bool} {m k:Nat} (h:bitN (bset P m) k=true):k < m:=by
 refine Classical.byContradiction fun hc=>?_
 unfold bitN at h
 rw [Nat.div_eq_of_lt (Nat.lt_of_lt_of_le (bset_lt P m) (Nat.pow_le_pow_right (by decide) (by omega)))] at h
 simp at h
theorem sound_step {T:ByteArray→Int→Int→Bool} {C:Ch} (h:chk T C=.ok) {A:Nat→Bool} {H H':List Nat} (hW:WB C.sts A 0) (hH:SndH C.sts H)
 (hn:∀ s,isSt C.sts s=true→histB (stAt C.sts s).kind=true→histAt H' s=histAt H s ∨ (hasS A (stAt C.sts s).par=true∧histAt H' s=bset (pastP C.sts A s) C.sts.length)):SndH C.sts H':=by
 have hT:=tame_of h
 refine snd_step hT (kinds_of h) hW hH (hpar_of hT) fun s hs hh=>?_
 rcases hn s hs hh with he | ⟨hA,he⟩
 · exact .inl he
 · have hp:=hpar_of hT s hs hh
   exact .inr ⟨hA,(of_bset hs hh he (snd_past hT (kinds_of h) hW hs hh hp.1 hp.2 hA).some).2⟩

theorem pad_at (n:Nat) (H:List Nat) (s:Int):histAt (padH n H) s=histAt H s:=by
 unfold histAt padH
 rw [List.getD_eq_getElem?_getD,List.getD_eq_getElem?_getD]
 rcases Nat.lt_or_ge s.toNat H.length with h | h
 · rw [List.getElem?_append_left h]
 · rw [List.getElem?_append_right h,List.getElem?_eq_none h]
   rcases Nat.lt_or_ge (s.toNat - H.length) (n - H.length) with h2 | h2
   · rw [List.getElem?_replicate_of_lt h2]; rfl
   · rw [List.getElem?_eq_none (by rw [List.length_replicate]; exact h2)]
theorem rec_at (S:List St) (Q a:Nat→Bool) (H:List Nat) (k:Nat):histAt (recU S Q a S.length H) (k:Int)=if k < H.length∧k < S.length∧histB (stAt S (k:Int)).kind=true∧Q (stAt S (k:Int)).par.toNat=true then bset (actP S a (k:Int)) S.length else histAt H (k:Int):=by
 unfold histAt
 rw [Int.toNat_natCast]
 rcases Nat.lt_or_ge k H.length with h | h
 · rw [recU_at S Q a H S.length k h]
   by_cases hc:k < S.length∧histB (stAt S (k:Int)).kind=true∧Q (stAt S (k:Int)).par.toNat=true
   · rw [if_pos hc,if_pos ⟨h,hc⟩]
   · rw [if_neg hc,if_neg (fun hh=>hc hh.2)]
 · rw [if_neg (fun hh=>by omega),List.getD_eq_getElem?_getD,List.getD_eq_getElem?_getD,List.getElem?_eq_none (by rw [recU_len]; exact h),List.getElem?_eq_none h]
theorem has_natI {A:Nat→Bool} (k:Nat):hasS A (k:Int)=A k:=by simp [hasS]
theorem left_bitI {C:Ch} {i:Int} {n0 k:Nat} (h:bitN (leftN C n0 i) k=true):bitN n0 k=true∧cIn C.sts (k:Int) (rchL C i)=true∧rchL C i ≠ -1:=by
 unfold leftN at h
 split at h
 · rw [bitN_zero'] at h; cases h
 · rename_i hr
   have hk:=bset_in h
   rw [bset_has hk] at h
   unfold leftP at h
   rw [Bool.and_eq_true] at h
   exact ⟨h.1,h.2,hr⟩
theorem left_bitJ {C:Ch} {i:Int} {n0 k:Nat} (hk:k < 24) (h1:bitN n0 k=true) (h2:cIn C.sts (k:Int) (rchL C i)=true) (h3:rchL C i ≠ -1):bitN (leftN C n0 i) k=true:=by
 unfold leftN
 rw [if_neg h3,bset_has hk]
 unfold leftP
 rw [h1,h2]
 rfl
theorem leftQ_iff {C:Ch} {n0:Nat} {l:List Int} {m k:Nat} (hin:∀ i ∈ l,∃ j:Nat,i=(j:Int)∧j < m):leftQ C n0 l m k=true ↔ ∃ i ∈ l,bitN (leftN C n0 i) k=true:=by
 unfold leftQ
 rw [List.any_eq_true]
 constructor
 · rintro ⟨j,hj,h⟩
   rw [Bool.and_eq_true,List.contains_iff_mem] at h
   exact ⟨_,h.1,h.2⟩
 · rintro ⟨i,hi,h⟩
   obtain ⟨j,rfl,hj⟩:=hin i hi
   exact ⟨j,List.mem_range.2 hj,by rw [Bool.and_eq_true,List.contains_iff_mem]; exact ⟨hi,h⟩⟩
theorem entQ_iff {C:Ch} {H:List Nat} {l:List Int} {m k:Nat} (hin:∀ i ∈ l,∃ j:Nat,i=(j:Int)∧j < m):entQ C H l m k=true ↔ ∃ i ∈ l,(trAt C.trs i).tgts ≠ []∧(pSet C.sts H (rchL C i) (trAt C.trs i).tgts).a k=true:=by
 unfold entQ
 rw [List.any_eq_true]
 constructor
 · rintro ⟨j,hj,h⟩
   rw [Bool.and_eq_true,Bool.and_eq_true,List.contains_iff_mem,decide_eq_true_eq] at h
   exact ⟨_,h.2.1,h.1,h.2.2⟩
 · rintro ⟨i,hi,h1,h2⟩
   obtain ⟨j,rfl,hj⟩:=hin i hi
   exact ⟨j,List.mem_range.2 hj,by rw [Bool.and_eq_true,Bool.and_eq_true,List.contains_iff_mem,decide_eq_true_eq]; exact ⟨h1,hi,h2⟩⟩
theorem act_past {S:List St} (hT:Tame S) {A:Nat→Bool} (hW:WB S A 0) (h:Int):bset (actP S A h) S.length=bset (pastP S A h) S.length:=by
 refine bset_congr S.length fun k hk=>?_
 unfold actP pastP
 by_cases h5:(stAt S h).kind=5
 · rw [if_pos h5,if_pos h5]
   cases hA:A k with
   | false=>simp
   | true =>
    have hh:histB (stAt S (k:Int)).kind=false:=by
     refine (hW.2 (k:Int) (isSt_of hk) (by rw [has_natI]; exact hA) ?_).1
     rcases Nat.eq_zero_or_pos k with h0 | h0
     · left; subst h0; rfl
     · right; exact hT.all _ (isSt_of hk) (by omega)
    have hk2:(kids S (stAt S h).par).contains (k:Int)=decide ((stAt S (k:Int)).par=(stAt S h).par):=by
     rw [Bool.eq_iff_iff,List.contains_iff_mem,decide_eq_true_eq]
     unfold kids kidsU
     rw [List.mem_map]
     constructor
     · rintro ⟨j,hj,he⟩
       obtain rfl:j=k:=by omega
       have:=(List.mem_filter.1 hj).2
       unfold kidB at this
       rw [Bool.and_eq_true,decide_eq_true_eq] at this
       exact this.1
     · intro hp
       exact ⟨k,List.mem_filter.2 ⟨List.mem_range.2 hk,by unfold kidB; rw [hh,hp]; simp⟩,rfl⟩
    rw [hk2]
    simp
 · rw [if_neg h5,if_neg h5,Bool.and_assoc]
theorem stp_whole {C:Ch} (h:chk hasTB C=.ok) {n0:Nat} (hn0:bset (bitN n0) C.sts.length=n0) (hW:WB C.sts (bitN n0) 0) {H:List Nat} (hlt:∀ x ∈ H,x < 4294967296) (hS:SoundP C.sts H) (env:List Int) (ev:Int) {l:List Int}
 (hl:l=(siL C (leftN C n0) (gaL C env ev n0).1).map (·.num)) (e2 i2:List Int) (st:Int) :
 WB C.sts (stpS C l ⟨bitN n0,padH C.sts.length H,e2,i2,st,[]⟩).a 0∧SoundP C.sts (stpS C l ⟨bitN n0,padH C.sts.length H,e2,i2,st,[]⟩).hist:=by
 have hT:=tame_of h
 have hin:∀ i ∈ l,isTr C.trs i=true:=fun i hi=>by
  subst hl
  obtain ⟨x,hx,rfl⟩:=List.mem_map.1 hi
  exact ((siL_apt C (leftN C n0) (gaL C env ev n0).1).2 x hx).2.2
 have hin2:∀ i ∈ l,∃ j:Nat,i=(j:Int)∧j < C.trs.length:=fun i hi=>isTr_nat (hin i hi)
 obtain ⟨X,hX⟩:∃ X:Se,(⟨bitN n0,padH C.sts.length H,e2,i2,st,[]⟩:Se)=X:=⟨_,rfl⟩
 have hXa:X.a=bitN n0:=by rw [← hX]
 have hXh:X.hist=padH C.sts.length H:=by rw [← hX]
 rw [hX]
 have hH':(stpS C l X).hist=recU C.sts (leftQ C n0 l C.trs.length) (bitN n0) C.sts.length (padH C.sts.length H):=by rw [stpS_hist,hXa,hXh,hn0]
 have hpl:C.sts.length≤(padH C.sts.length H).length:=by rw [padH_len]; omega
 have hat:∀ k:Nat,histAt (stpS C l X).hist (k:Int)=if k < C.sts.length∧histB (stAt C.sts (k:Int)).kind=true∧leftQ C n0 l C.trs.length (stAt C.sts (k:Int)).par.toNat=true then bset (actP C.sts (bitN n0) (k:Int)) C.sts.length else histAt H (k:Int):=fun k=>by
  rw [hH',rec_at,pad_at]
  by_cases hc:k < C.sts.length∧histB (stAt C.sts (k:Int)).kind=true∧leftQ C n0 l C.trs.length (stAt C.sts (k:Int)).par.toNat=true
  · rw [if_pos ⟨by omega,hc⟩,if_pos hc]
  · rw [if_neg (fun hh=>hc hh.2),if_neg hc]
 have hlt':∀ s:Nat,histAt H (s:Int) < 4294967296:=fun s=>by
  unfold histAt
  rw [List.getD_eq_getElem?_getD]
  rcases Nat.lt_or_ge (s:Int).toNat H.length with h1 | h1
  · rw [List.getElem?_eq_getElem h1]; exact hlt _ (List.getElem_mem h1)
  · rw [List.getElem?_eq_none h1]; decide
 have hsnd:=snd_of_sound hT hlt' hS
 have hsnd':SndH C.sts (stpS C l X).hist:=sound_step h hW hsnd fun s hs hh=>by
  obtain ⟨k,rfl,hk⟩:=isSt_nat hs
  rw [hat k]
  by_cases hc:k < C.sts.length∧histB (stAt C.sts (k:Int)).kind=true∧leftQ C n0 l C.trs.length (stAt C.sts (k:Int)).par.toNat=true
  · rw [if_pos hc]
    right
    obtain ⟨i,hi,hb⟩:=(leftQ_iff hin2).1 hc.2.2
    obtain ⟨q,hq,hql⟩:=hist_par hT hk hh
    have hbq:=(left_bitI hb).1
    rw [hq] at hbq ⊢
    rw [Int.toNat_natCast] at hbq
    exact ⟨by rw [has_natI]; exact hbq,act_past hT hW _⟩
  · rw [if_neg hc]
    exact .inl rfl
 have hS':SoundP C.sts (stpS C l X).hist:=by
  refine sound_of_snd hT (fun s h0=>?_) hsnd'
  rw [hat s] at h0 ⊢
  by_cases hc:s < C.sts.length∧histB (stAt C.sts (s:Int)).kind=true∧leftQ C n0 l C.trs.length (stAt C.sts (s:Int)).par.toNat=true
  · rw [if_pos hc]
    exact ⟨hc.1,hc.2.1,fun k _ hb=>bset_in hb⟩
  · rw [if_neg hc] at h0 ⊢
    obtain ⟨g1,g2,g3⟩:=hS.1 s (hist_len h0) h0
    refine ⟨g1,g2,fun k hk hb=>?_⟩
    have hm:(k:Int) ∈ stD C.sts H (s:Int):=by unfold stD; rw [if_pos h0]; exact membU_in hk hb
    have:=isSt_iff.1 (g3 _ hm).1
    omega
 refine ⟨?_,hS'⟩
 have hG:=(good_std hT (fun s hs=>(hS'.1 s hs).weak)).1
 have hWB:=micro_whole h hW (hok_of_snd hT hsnd') env ev
 rw [← hl] at hWB
 refine WB.congr hT hWB fun y hy=>?_
 have hyS:isSt C.sts y=true:=by
  rcases hy with rfl | hy
  · exact isSt_iff.2 ⟨by omega,by have:=hT.pos; omega⟩
  · exact (cIn_range hy).2.2
 obtain ⟨k,rfl,hk⟩:=isSt_nat hyS
 rw [has_natI,has_natI,stpS_a C l X hk,hXa,hn0]
 have hlen:=hT.len
 rw [Bool.eq_iff_iff]
 unfold stepS entL
 rw [Bool.or_eq_true,Bool.or_eq_true,Bool.and_eq_true,Bool.and_eq_true,Bool.not_eq_true',Bool.not_eq_true']
 have hE:entQ C (stpS C l X).hist l C.trs.length k=true ↔ (((l.filter fun i=>decide ((trAt C.trs i).tgts ≠ [])).map fun i=>(rchL C i,dSet C.sts (stpS C l X).hist (rchL C i) (trAt C.trs i).tgts)).any fun p=>p.2 k)=true:=by
  rw [entQ_iff hin2,List.any_eq_true]
  constructor
  · rintro ⟨i,hi,h1,h2⟩
    exact ⟨_,List.mem_map.2 ⟨i,List.mem_filter.2 ⟨hi,by simpa using h1⟩,rfl⟩,by rw [set_same hT hG] at h2; exact h2⟩
  · rintro ⟨p,hp,h2⟩
    obtain ⟨i,hi,rfl⟩:=List.mem_map.1 hp
    obtain ⟨h3,h4⟩:=List.mem_filter.1 hi
    exact ⟨i,h3,by simpa using h4,by rw [set_same hT hG]; exact h2⟩
 have hL:bitN n0 k=true→(leftQ C n0 l C.trs.length k=false ↔ (((l.filter fun i=>decide ((trAt C.trs i).tgts ≠ [])).map fun i=>(rchL C i,dSet C.sts (stpS C l X).hist (rchL C i) (trAt C.trs i).tgts)).any fun p=>cIn C.sts (k:Int) p.1)=false):=fun hb=>by
  rw [← Bool.not_eq_true,← Bool.not_eq_true,leftQ_iff hin2,List.any_eq_true]
  refine not_congr ⟨?_,?_⟩
  · rintro ⟨i,hi,h1⟩
    obtain ⟨_,h2,h3⟩:=left_bitI h1
    refine ⟨_,List.mem_map.2 ⟨i,List.mem_filter.2 ⟨hi,?_⟩,rfl⟩,h2⟩
    rw [decide_eq_true_eq]
    intro ht
    refine h3 ?_
    unfold rchL trOf
    rw [if_pos (hin i hi)]
    unfold rchT
    rw [if_pos (by rw [ht]; rfl)]
  · rintro ⟨p,hp,h2⟩
    obtain ⟨i,hi,rfl⟩:=List.mem_map.1 hp
    obtain ⟨h3,h4⟩:=List.mem_filter.1 hi
    rw [decide_eq_true_eq] at h4
    have hr:=isSt_iff.1 (reach_of h (hin i h3) h4).2.1
    exact ⟨i,h3,left_bitJ (by omega) hb h2 (by omega)⟩
 constructor
 · rintro (⟨h1,h2⟩ | h1)
   · exact .inl ⟨h1,(hL h1).1 h2⟩
   · exact .inr (hE.1 h1)
 · rintro (⟨h1,h2⟩ | h1)
   · exact .inl ⟨h1,(hL h1).2 h2⟩
   · exact .inr (hE.2 h1)
open Go.ChangeShapes Go.WideShapes Go.ChangeAt Go.RowKit

theorem Tryz.info4:(Tryz.prog.info? 4).map (fun i=>(i.zero,i.size,i.bytes))=some (some (.bool false),1,1):=by kernel_rfl

def TruAt (w:World) (b n:Nat) (A:Nat→Bool):Prop:=∃ cur,Blk w b 4 cur∧cur.size=n∧∀ i,i < n→cur[i]?=some (.bool (A i))
theorem TruAt.below {w w':World} {b n:Nat} {A:Nat→Bool} (h:TruAt w b n A) (hb:Below w.heap.size w w'):TruAt w' b n A:=by
 obtain ⟨cur,h1,h2⟩:=h
 exact ⟨cur,h1.below hb h1.lt,h2⟩
theorem TruAt.cell {w:World} {b n:Nat} {A:Nat→Bool} (h:TruAt w b n A) {k:Nat} (hk:k < n):w.cell? ⟨b,k,none⟩=some (.bool (A k))∧w.frozen? ⟨b,k,none⟩=false:=by
 obtain ⟨cur,h1,h2,h3⟩:=h
 exact ⟨(h1.cell k).trans (h3 k hk),h1.frozen k⟩
theorem TruAt.put {w:World} {b n:Nat} {A:Nat→Bool} (h:TruAt w b n A) (k:Nat) (x:Bool) (B:Nat→Bool) (hB:∀ i,i < n→B i=if i=k then x else A i):TruAt (w.setCell ⟨b,k,none⟩ (.bool x)) b n B:=by
 obtain ⟨cur,h1,h2,h3⟩:=h
 refine ⟨_,h1.set_ k _,by simpa using h2,fun i hi=>?_⟩
 by_cases hik:k=i
 · subst hik
   rw [Array.getElem?_setIfInBounds_self_of_lt (by omega),hB k hi,if_pos rfl]
 · rw [Array.getElem?_setIfInBounds_ne hik,h3 i hi,hB i hi,if_neg (Ne.symm hik)]
theorem TruAt.apart {w:World} {b n g:Nat} {A:Nat→Bool} (h:TruAt w b n A) (hne:b ≠ g) (j:Nat) (u:Value):TruAt (w.setCell ⟨g,j,none⟩ u) b n A:=by
 obtain ⟨cur,h1,h2⟩:=h
 exact ⟨cur,h1.set_ne hne j u,h2⟩
section
variable {w0:World} {g ba:Nat} {vs vt:Value} {C:Ch} {fu:Int} {w w':World} {vh ve vi vo:Value} {X:Se}
end

set_option maxHeartbeats 4000000 in
set_option maxRecDepth 100000 in
theorem ints_same2 (v u:Value) (L:List Int) (w:World) (hv:ListAt w v L) (hu:ListAt w u L) (hl:L.length≤1000000) :
 Calls Tryz.prog 50 #[v,u] w fun e w'=>e=.returned (.bool true)∧Below w.heap.size w w':=by
 obtain ⟨A,cap,rfl,hcap,he⟩:=hv
 obtain ⟨A',cap',rfl,hcap',he'⟩:=hu
 have HE:=Lib.hid he
 have HE':=Lib.hid he'
 clear he he'
 go_enter Tryz.func50,Tryz.ntmps50
 go_wp2_with fail
 go_loopw [5] (fun i wr=>∃ k:Nat,k≤L.length∧i=.int .i64 (k:Int)∧Below w.heap.size w wr) (fun i _=>L.length - (intOf i).toNat)
 case atStart=>exact ⟨0,Nat.zero_le _,rfl,Below.refl _ _⟩
 case round =>
  obtain ⟨k,hk,rfl,hb⟩:=hrel
  obtain ⟨wo,rfl⟩:∃ wo:World,wo=wr:=⟨_,rfl⟩
  by_cases hlt:k < L.length
  · obtain ⟨b,o,rfl,hbl,hc⟩:=HE.out k _ (List.getElem?_eq_getElem hlt)
    obtain ⟨b',o',rfl,hbl',hc'⟩:=HE'.out k _ (List.getElem?_eq_getElem hlt)
    have c0:wo.cell? ⟨b,o+k,none⟩=some (.int .i64 L[k]):=by have:=IntAt.keeps w wo b _ _ hb hbl hc; rwa [Nat.mul_one] at this
    have c0':wo.cell? ⟨b',o'+k,none⟩=some (.int .i64 L[k]):=by have:=IntAt.keeps w wo b' _ _ hb hbl' hc'; rwa [Nat.mul_one] at this
    generalize L[k]=x at *
    have HB:=Lib.hid hb
    have hxx:(x != x)=false:=by simp
    clear hc hc' hb
    go_wp2_with fail
    go_quiet (fail)
    go_wp2
    go_roundw
    case rel=>exact ⟨k+1,by omega,by go_num,below_drewN HB.out _⟩
    case measure=>simp [intOf]; omega
  · obtain rfl:k=L.length:=by omega
    go_wp2_with fail
    go_ret
    exact ⟨rfl,hb⟩
set_option maxHeartbeats 4000000 in
set_option maxRecDepth 100000 in
theorem same12_any (va vb:Value) (n:Nat) (X:Se) (w:World) (ha:RunAt w n va X) (hb:RunAt w n vb X) (hHl:X.hist.length≤1000) (hEl:X.env.length≤1000) (hIl:X.ins.length≤1000000) :
 Calls Tryz.prog 15 #[va,vb] w fun e w'=>e=.returned (.bool true)∧Below w.heap.size w w':=by
 obtain ⟨av,H,E,I,st,O⟩:=X
 obtain ⟨vh,ve,vi,rfl,h1,h2,h3⟩:=ha
 obtain ⟨uh,ue,ui,rfl,k1,k2,k3⟩:=hb
 dsimp only at h1 h2 h3 k1 k2 k3 hHl hEl hIl ⊢
 obtain ⟨hA,hcap,rfl,hhe⟩:=RowsAt.slice h1
 obtain ⟨eA,ecap,rfl,hee⟩:=RowsAt.slice (rows_of_nums h2)
 obtain ⟨iA,icap,rfl,hie⟩:=RowsAt.slice h3
 obtain ⟨hA2,hcap2,rfl,khe⟩:=RowsAt.slice k1
 obtain ⟨eA2,ecap2,rfl,kee⟩:=RowsAt.slice (rows_of_nums k2)
 obtain ⟨iA2,icap2,rfl,kie⟩:=RowsAt.slice k3
 have HH:=Lib.hid h1
 have HK:=Lib.hid k1
 have HNS:=Lib.hid (fun (W:World) (h:Below w.heap.size w W)=>nums_same _ _ E W (h2.below h) (k2.below h) hEl)
 have HIS:=Lib.hid (fun (W:World) (h:Below w.heap.size w W)=>ints_same2 _ _ I W (h3.below h) (k3.below h) hIl)
 obtain ⟨N,hN⟩:∃ N:Int,((bset av n:Nat):Int)=N:=⟨_,rfl⟩
 rw [hN]
 have hnn:(N != N)=false:=by simp
 have hss:(st != st)=false:=by simp
 have hb0:Below w.heap.size w ((w.alloc (.cells #[.int .u32 N,.slice hA H.length hcap,.slice eA E.length ecap,.slice iA I.length icap,.int .i64 st] 31)).alloc (.cells #[.int .u32 N,.slice hA2 H.length hcap2,.slice eA2 E.length ecap2,.slice iA2 I.length icap2,.int .i64 st] 31)):=(below_box w _).alloc (by simp) _
 have hx0:=(Blk.new w 31 #[.int .u32 N,.slice hA H.length hcap,.slice eA E.length ecap,.slice iA I.length icap,.int .i64 st]).alloc (.cells #[.int .u32 N,.slice hA2 H.length hcap2,.slice eA2 E.length ecap2,.slice iA2 I.length icap2,.int .i64 st] 31)
 have hy0:=Blk.new_at (w.alloc (.cells #[.int .u32 N,.slice hA H.length hcap,.slice eA E.length ecap,.slice iA I.length icap,.int .i64 st] 31)) 31 #[.int .u32 N,.slice hA2 H.length hcap2,.slice eA2 E.length ecap2,.slice iA2 I.length icap2,.int .i64 st] (w.heap.size+1) (by simp)
 have HB0:=Lib.hid hb0
 have HX0:=Lib.hid hx0
 have HY0:=Lib.hid hy0
 clear h1 h2 h3 k1 k2 k3 hN hb0 hx0 hy0 hhe hee hie khe kee kie
 go_enter Tryz.func15,Tryz.ntmps15
 go_wp2_with fail
 generalize (w.alloc (.cells #[.int .u32 N,.slice hA H.length hcap,.slice eA E.length ecap,.slice iA I.length icap,.int .i64 st] 31)).alloc (.cells #[.int .u32 N,.slice hA2 H.length hcap2,.slice eA2 E.length ecap2,.slice iA2 I.length icap2,.int .i64 st] 31)=w1 at *
 have h1s:w.heap.size≤w1.heap.size:=HB0.out.size
 go_loopw [5] (fun i wr=>∃ k:Nat,k≤H.length∧i=.int .i64 (k:Int)∧Below w1.heap.size w1 wr) (fun i _=>H.length - (intOf i).toNat)
 case atStart=>exact ⟨0,Nat.zero_le _,rfl,Below.refl _ _⟩
 case round =>
  obtain ⟨k,hk,rfl,hb⟩:=hrel
  obtain ⟨wo,rfl⟩:∃ wo:World,wo=wr:=⟨_,rfl⟩
  obtain ⟨⟨x0,x1,x2,x3,x4⟩,-⟩:=blk5_facts (HX0.out.below hb HX0.out.lt)
  obtain ⟨⟨y0,y1,y2,y3,y4⟩,-⟩:=blk5_facts (HY0.out.below hb HY0.out.lt)
  have HB:=Lib.hid hb
  have HBW:Hid (Below w.heap.size w wo):=Lib.hid (HB0.out.trans (hb.mono h1s))
  by_cases hlt:k < H.length
  · obtain ⟨_,_,q1,_,q3⟩:=HH.out.below HBW.out
    injection q1 with e1 e2 e3
    subst e1
    obtain ⟨b,o,rfl,hbl,hc⟩:=q3 k _ (List.getElem?_eq_getElem hlt)
    obtain ⟨_,_,r1,_,r3⟩:=HK.out.below HBW.out
    injection r1 with e4 e5 e6
    subst e4
    obtain ⟨b',o',rfl,hbl',hc'⟩:=r3 k _ (List.getElem?_eq_getElem hlt)
    have c0:=hc.1
    have c0':=hc'.1
    rw [Nat.mul_one] at c0 c0'
    generalize H[k]=x at *
    have hxx:((x:Int) != (x:Int))=false:=by simp
    clear hc hc' hb q3 r3 e2 e3 e5 e6
    go_wp2_with fail
    go_quiet (fail)
    go_wp2
    go_roundw
    case rel=>exact ⟨k+1,by omega,by go_num,below_drewN HB.out _⟩
    case measure=>simp [intOf]; omega
  · obtain rfl:k=H.length:=by omega
    clear hb
    go_wp2_with fail
    refine (HNS.out _ HBW.out).mono ?_
    rintro e w2 ⟨rfl,hb2⟩
    have HB2:=Lib.hid (HBW.out.trans (hb2.mono HBW.out.size))
    obtain ⟨⟨u0,u1,u2,u3,u4⟩,-⟩:=blk5_facts ((HX0.out.below HB.out HX0.out.lt).below hb2 (HX0.out.below HB.out HX0.out.lt).lt)
    obtain ⟨⟨z0,z1,z2,z3,z4⟩,-⟩:=blk5_facts ((HY0.out.below HB.out HY0.out.lt).below hb2 (HY0.out.below HB.out HY0.out.lt).lt)
    clear hb2 x0 x1 x2 x3 x4 y0 y1 y2 y3 y4
    go_wp2_with fail
    refine (HIS.out _ HB2.out).mono ?_
    rintro e w3 ⟨rfl,hb3⟩
    have HB3:=Lib.hid (HB2.out.trans (hb3.mono HB2.out.size))
    clear hb3
    go_wp2_with fail
    go_ret
    exact ⟨rfl,HB3.out⟩
section
variable {w0:World} {g ba:Nat} {vs vt:Value} {C:Ch} {fu:Int} {w:World} {vh ve vi vo:Value} {X:Se}
end

def smB (C:Ch) (h e i:Nat):Bool:=fewB C && (decide (h≤24) && (decide (e≤40) && decide (i≤60)))
set_option maxHeartbeats 4000000 in
set_option maxRecDepth 100000 in
theorem small12_any (vs vt vh ve vi:Value) (C:Ch) (n:Int) (H:List Nat) (env ins:List Int) (st:Int) (w:World) (hC:ChHas w vs vt C) (hS:ShortCh C) (hH:HistAt w vh H) (hE:NumsAt w ve env) (hI:ListAt w vi ins) :
 Calls Tryz.prog 8 #[.agg #[.int .i64 C.vars,vs,vt],.agg #[.int .u32 n,vh,ve,vi,.int .i64 st]] w fun e w'=>e=.returned (.bool (smB C H.length env.length ins.length))∧Below w.heap.size w w':=by
 obtain ⟨sA,scap,tA,tcap,rfl,rfl⟩:=hC.slices
 obtain ⟨hA,hcap,rfl,-⟩:=RowsAt.slice hH
 obtain ⟨eA,ecap,rfl,-⟩:=RowsAt.slice (rows_of_nums hE)
 obtain ⟨iA,icap,rfl,-⟩:=RowsAt.slice hI
 have hb0:Below w.heap.size w ((w.alloc (chBox C.vars (.slice sA C.sts.length scap) (.slice tA C.trs.length tcap))).alloc (.cells #[.int .u32 n,.slice hA H.length hcap,.slice eA env.length ecap,.slice iA ins.length icap,.int .i64 st] 31)):=(below_box w _).alloc (by simp) _
 have HB0:=Lib.hid hb0
 have HFW:=Lib.hid (few_any C.vars _ _ C _ (hC.below hb0) hS)
 have HX0:=Lib.hid (Blk.new_at (w.alloc (chBox C.vars (.slice sA C.sts.length scap) (.slice tA C.trs.length tcap))) 31 #[.int .u32 n,.slice hA H.length hcap,.slice eA env.length ecap,.slice iA ins.length icap,.int .i64 st] (w.heap.size+1) (by simp))
 have HSM:Hid (smB C H.length env.length ins.length=(fewB C && (decide (H.length≤24) && (decide (env.length≤40) && decide (ins.length≤60))))):=Lib.hid rfl
 rw [HSM.out]
 obtain ⟨fb,hfb⟩:∃ fb,fewB C=fb:=⟨_,rfl⟩
 rw [hfb] at HFW ⊢
 generalize H.length=hl at *
 generalize env.length=el at *
 generalize ins.length=il at *
 clear hC hS hH hE hI hb0 HSM hfb
 go_enter Tryz.func8,Tryz.ntmps8
 go_wp2_with fail
 refine HFW.out.mono ?_
 rintro e w1 ⟨rfl,hb1⟩
 obtain ⟨⟨x0,x1,x2,x3,x4⟩,-⟩:=blk5_facts (HX0.out.below hb1 HX0.out.lt)
 have HB1:=Lib.hid (HB0.out.trans (hb1.mono HB0.out.size))
 clear hb1
 cases fb with
 | false =>
  go_wp2_with fail
  go_ret
  exact ⟨rfl,HB1.out⟩
 | true =>
  by_cases h1:hl≤24
  · have d1:decide ((hl:Int)≤24)=true:=decide_eq_true (by omega)
    by_cases h2:el≤40
    · have d2:decide ((el:Int)≤40)=true:=decide_eq_true (by omega)
      by_cases h3:il≤60
      · have d3:decide ((il:Int)≤60)=true:=decide_eq_true (by omega)
        go_wp2_with fail
        go_ret
        exact ⟨ret_bool (by simp [h1,h2,h3]),HB1.out⟩
      · have d3:decide ((il:Int)≤60)=false:=decide_eq_false (by omega)
        go_wp2_with fail
        go_ret
        exact ⟨ret_bool (by simp [h1,h2,h3]),HB1.out⟩
    · have d2:decide ((el:Int)≤40)=false:=decide_eq_false (by omega)
      go_wp2_with fail
      go_ret
      exact ⟨ret_bool (by simp [h1,h2]),HB1.out⟩
  · have d1:decide ((hl:Int)≤24)=false:=decide_eq_false (by omega)
    go_wp2_with fail
    go_ret
    exact ⟨ret_bool (by simp [h1]),HB1.out⟩

theorem mem_upsF {S:List St} {q:Int}:∀ (n:Nat) (p:Int),(p+1).toNat≤n→(q ∈ upsF S n p ↔ 0≤p∧(q=p ∨ cIn S p q=true))
 | 0,p,h=>by
  rw [upsF]
  constructor
  · intro hq; cases hq
  · intro hq; omega
 | n+1,p,h=>by
  rw [upsF]
  by_cases hp:p < 0
  · rw [if_pos hp]
    constructor
    · intro hq; cases hq
    · intro hq; omega
  · have hlt:=cUp_step S p (by omega)
    rw [if_neg hp,List.mem_cons,mem_upsF n (cUp S p) (by omega),cIn_iff S p q]
    constructor
    · rintro (h1 | ⟨h1,h2⟩)
      · exact ⟨by omega,.inl h1⟩
      · refine ⟨by omega,.inr ⟨h1,?_⟩⟩
        rcases h2 with h2 | h2
        · exact .inl h2.symm
        · exact .inr h2
    · rintro ⟨_,h1 | ⟨h1,h2⟩⟩
      · exact .inl h1
      · refine .inr ⟨h1,?_⟩
        rcases h2 with h2 | h2
        · exact .inl h2.symm
        · exact .inr h2
theorem mem_ups {S:List St} {s q:Int}:q ∈ ups S s ↔ cIn S s q=true:=by
 unfold ups
 constructor
 · intro h
   exact ups_in (s:=s) (by unfold ups; exact h)
 · intro h
   have h1:=(cIn_iff S s q).1 h
   have h2:=cIn_range h
   have hlt:=cUp_step S s (by omega)
   rw [mem_upsF _ _ (by omega)]
   refine ⟨h1.1,?_⟩
   rcases h1.2 with h3 | h3
   · exact .inl h3.symm
   · exact .inr h3
theorem upsF_desc {S:List St}:∀ (n:Nat) (p:Int),(p+1).toNat≤n→(upsF S n p).Pairwise fun a b=>b < a
 | 0,p,h=>by rw [upsF]; exact .nil
 | n+1,p,h=>by
  rw [upsF]
  by_cases hp:p < 0
  · rw [if_pos hp]; exact .nil
  · have hlt:=cUp_step S p (by omega)
    rw [if_neg hp]
    refine .cons (fun q hq=>?_) (upsF_desc n (cUp S p) (by omega))
    rcases (mem_upsF n (cUp S p) (by omega)).1 hq with ⟨_,h1 | h1⟩
    · omega
    · have:=cIn_range h1
      omega
theorem ups_desc {S:List St} {s:Int} (h0:0≤s):(ups S s).Pairwise fun a b=>b < a:=by
 have hlt:=cUp_step S s h0
 exact upsF_desc _ _ (by omega)
theorem ups_cut {S:List St} {x q:Int} (h0:0≤x) {m:Nat} (hm:m≤(ups S x).length) (h1:∀ i u,i < m→(ups S x)[i]?=some u→q≤u) (h2:∀ u,(ups S x)[m]?=some u→u < q) (y:Int):((ups S x).take m).contains y=(cIn S x y && decide (q≤y)):=by
 have hd:=ups_desc (S:=S) h0
 rw [Bool.eq_iff_iff,List.contains_iff_mem,Bool.and_eq_true,decide_eq_true_eq]
 constructor
 · intro h
   obtain ⟨i,hi⟩:=List.getElem?_of_mem h
   rw [List.getElem?_take] at hi
   split at hi
   · rename_i him
     exact ⟨mem_ups.1 (List.mem_of_getElem? hi),h1 i y him hi⟩
   · cases hi
 · rintro ⟨hc,hq⟩
   obtain ⟨i,hi⟩:=List.getElem?_of_mem (mem_ups.2 hc)
   rcases Nat.lt_or_ge i m with him | him
   · exact List.mem_of_getElem? (i:=i) (by rw [List.getElem?_take,if_pos him]; exact hi)
   · exfalso
     have hil:=(List.getElem?_eq_some_iff.1 hi)
     obtain ⟨hil,hie⟩:=hil
     have hml:m < (ups S x).length:=by omega
     have hu:=h2 _ (List.getElem?_eq_getElem hml)
     rcases Nat.eq_or_lt_of_le him with he | hlt
     · subst he
       omega
     · have:=List.pairwise_iff_getElem.1 hd m i hml hil hlt
       omega
theorem clo_snoc (S:List St) (R:List Int) (p x:Int) (y:Nat):cloP S (R ++ [x]) p y=(cloP S R p y || (decide (x=(y:Int)) || (cIn S x (y:Int) && decide (p≤(y:Int))))):=by
 unfold cloP
 rw [List.any_append]
 simp
theorem clo_none (S:List St) (p:Int):cloP S [] p=fun _=>false:=by
 funext y
 simp [cloP]
end Go.Proofs.YtgofpbdbeegoeaaGreatDoor
