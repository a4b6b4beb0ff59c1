/- Plain functions on lists of bytes, and what follows of them: what a text's tokens are, and tokens' text. No program in this text. -/
import Derived.Lib.ItoaNum
import Derived.Lib.ParseIntB
import Derived.Lib.Join
import Derived.Lib.Strings
namespace Go.Proofs.YtmhkpjcdkjnlnaaGreatDoor
set_option linter.unusedVariables false

abbrev Tk:=Int × Int × Int
def isSp (c:UInt8):Bool:=decide (c.toNat=32)
def isDg (c:UInt8):Bool:=decide (48≤c.toNat) && decide (c.toNat≤57)
def isLe (c:UInt8):Bool:=decide (97≤c.toNat) && decide (c.toNat≤122)
def upto (p:UInt8→Bool) (l:List UInt8) (k:Nat):Nat:=k+((l.drop k).takeWhile p).length
def mid (l:List UInt8) (a b:Nat):List UInt8:=(l.drop a).take (b - a)
def val (l:List UInt8):Nat:=l.foldl (fun n c=>10 * n+(c.toNat - 48)) 0
def texts:List (List UInt8):=[[],[],[],[43],[45],[42],[47],[37],[60],[60,61],[61,61],[33,61],[97,110,100],[111,114],[110,111,116],[116,114,117,101],[102,97,108,115,101],[40],[41]]
def fixedFrom (w:List UInt8):Nat→Nat→Option Nat
 | 0,_=>none
 | n+1,k=>if texts.getD k []=w then some k else fixedFrom w n (k+1)
def fixedK (w:List UInt8):Option Nat:=fixedFrom w 16 3
def fixTok (l:List UInt8) (k e:Nat):Option (Tk × Nat):=(fixedK (mid l k e)).map fun j:Nat=>(((j:Int),0,(k:Int)),e)
def tokAt (l:List UInt8) (k:Nat):Option (Tk × Nat) :=
 if isDg (l.getD k 0)=true then
  if val (mid l k (upto isDg l k))≤9223372036854775807 then some ((1,(val (mid l k (upto isDg l k)):Int),(k:Int)),upto isDg l k) else none
 else if isLe (l.getD k 0)=true then
  if upto isLe l k=k+1 then some ((2,((l.getD k 0).toNat:Int) - 97,(k:Int)),k+1) else fixTok l k (upto isLe l k)
 else if k+2≤l.length∧fixedK (mid l k (k+2)) ≠ none then fixTok l k (k+2)
 else fixTok l k (k+1)
def scanF:Nat→List UInt8→Nat→List Tk→List Tk × Int
 | 0,_,_,acc=>(acc,-1)
 | n+1,l,k,acc =>
  if k < l.length then
   if isSp (l.getD k 0)=true then scanF n l (k+1) acc
   else match tokAt l k with
    | none=>([],(k:Int))
    | some (t,e)=>scanF n l e (acc ++ [t])
  else (acc,-1)
def scan (l:List UInt8) (k:Nat) (acc:List Tk):List Tk × Int:=scanF (l.length - k) l k acc
theorem getD_at (l:List UInt8) (k:Nat) (h:k < l.length):l.getD k 0=l[k]:=by
 simp [List.getD,List.getElem?_eq_getElem h]
theorem upto_yes (p:UInt8→Bool) (l:List UInt8) (k:Nat) (h:k < l.length) (hp:p (l.getD k 0)=true):upto p l k=upto p l (k+1):=by
 rw [getD_at l k h] at hp
 unfold upto; rw [List.drop_eq_getElem_cons h,List.takeWhile_cons,if_pos hp,List.length_cons]; omega
theorem upto_no (p:UInt8→Bool) (l:List UInt8) (k:Nat) (h:k < l.length) (hp:p (l.getD k 0)=false):upto p l k=k:=by
 rw [getD_at l k h] at hp
 unfold upto; rw [List.drop_eq_getElem_cons h,List.takeWhile_cons,hp]; simp
theorem upto_end (p:UInt8→Bool) (l:List UInt8) (k:Nat) (h:l.length≤k):upto p l k=k:=by
 unfold upto; rw [List.drop_eq_nil_of_le h]; simp
theorem le_upto (p:UInt8→Bool) (l:List UInt8) (k:Nat):k≤upto p l k:=by unfold upto; omega
theorem upto_le (p:UInt8→Bool) (l:List UInt8) (k:Nat) (h:k≤l.length):upto p l k≤l.length:=by
 unfold upto
 have:=(List.takeWhile_sublist p (l:=l.drop k)).length_le
 rw [List.length_drop] at this
 omega
theorem mid_upto (p:UInt8→Bool) (l:List UInt8) (k:Nat):mid l k (upto p l k)=(l.drop k).takeWhile p:=by
 unfold mid upto
 rw [Nat.add_sub_cancel_left]
 exact (List.prefix_iff_eq_take.1 (List.takeWhile_prefix p)).symm
theorem mid_length (l:List UInt8) (a b:Nat) (h:b≤l.length):(mid l a b).length=b - a:=by
 unfold mid; rw [List.length_take,List.length_drop]; omega
theorem tokAt_gt {l:List UInt8} {k e:Nat} {t:Tk} (hk:k < l.length) (h:tokAt l k=some (t,e)):k < e∧e≤l.length:=by
 unfold tokAt fixTok at h
 have hd:=upto_le isDg l (k+1) (by omega)
 have hl:=upto_le isLe l (k+1) (by omega)
 have hd2:=le_upto isDg l (k+1)
 have hl2:=le_upto isLe l (k+1)
 by_cases c1:isDg (l.getD k 0)=true
 · rw [if_pos c1,upto_yes isDg l k hk c1] at h
   by_cases c2:val (mid l k (upto isDg l (k+1)))≤9223372036854775807
   · rw [if_pos c2] at h; simp only [Option.some.injEq,Prod.mk.injEq] at h; omega
   · rw [if_neg c2] at h; cases h
 · rw [if_neg c1] at h
   by_cases c2:isLe (l.getD k 0)=true
   · rw [if_pos c2,upto_yes isLe l k hk c2] at h
     by_cases c3:upto isLe l (k+1)=k+1
     · rw [if_pos c3] at h; simp only [Option.some.injEq,Prod.mk.injEq] at h; omega
     · rw [if_neg c3,Option.map_eq_some_iff] at h
       obtain ⟨j,_,h⟩:=h
       simp only [Prod.mk.injEq] at h; omega
   · rw [if_neg c2] at h
     by_cases c3:k+2≤l.length∧fixedK (mid l k (k+2)) ≠ none
     · rw [if_pos c3,Option.map_eq_some_iff] at h
       obtain ⟨j,_,h⟩:=h
       simp only [Prod.mk.injEq] at h; omega
     · rw [if_neg c3,Option.map_eq_some_iff] at h
       obtain ⟨j,_,h⟩:=h
       simp only [Prod.mk.injEq] at h; omega
theorem scanF_more (l:List UInt8):∀ (n m k:Nat) (acc:List Tk),l.length - k≤n→l.length - k≤m→scanF n l k acc=scanF m l k acc
 | 0,0,_,_,_,_=>rfl
 | 0,m+1,k,acc,h,_=>by rw [scanF,scanF,if_neg (by omega)]
 | n+1,0,k,acc,_,h=>by rw [scanF,scanF,if_neg (by omega)]
 | n+1,m+1,k,acc,h1,h2=>by
  rw [scanF,scanF]
  by_cases hk:k < l.length
  · rw [if_pos hk,if_pos hk]
    by_cases hs:isSp (l.getD k 0)=true
    · rw [if_pos hs,if_pos hs]; exact scanF_more l n m (k+1) acc (by omega) (by omega)
    · rw [if_neg hs,if_neg hs]
      cases ht:tokAt l k with
      | none=>rfl
      | some x =>
       obtain ⟨t,e⟩:=x
       have:=tokAt_gt hk ht
       exact scanF_more l n m e (acc ++ [t]) (by omega) (by omega)
  · rw [if_neg hk,if_neg hk]
theorem scan_end (l:List UInt8) (k:Nat) (acc:List Tk) (h:l.length≤k):scan l k acc=(acc,-1):=by
 unfold scan; rw [show l.length - k=0 from by omega]; rfl
theorem scan_sp (l:List UInt8) (k:Nat) (acc:List Tk) (h:k < l.length) (hs:isSp (l.getD k 0)=true):scan l k acc=scan l (k+1) acc:=by
 unfold scan; rw [show l.length - k=(l.length - (k+1))+1 from by omega,scanF,if_pos h,if_pos hs]
theorem scan_bad (l:List UInt8) (k:Nat) (acc:List Tk) (h:k < l.length) (hs:isSp (l.getD k 0)=false) (ht:tokAt l k=none):scan l k acc=([],(k:Int)):=by
 unfold scan; rw [show l.length - k=(l.length - (k+1))+1 from by omega,scanF,if_pos h,if_neg (by rw [hs]; exact Bool.false_ne_true),ht]
theorem scan_tok (l:List UInt8) (k e:Nat) (t:Tk) (acc:List Tk) (h:k < l.length) (hs:isSp (l.getD k 0)=false) (ht:tokAt l k=some (t,e)):scan l k acc=scan l e (acc ++ [t]):=by
 have hg:=tokAt_gt h ht
 unfold scan; rw [show l.length - k=(l.length - (k+1))+1 from by omega,scanF,if_pos h,if_neg (by rw [hs]; exact Bool.false_ne_true),ht]
 exact scanF_more l _ _ e _ (by omega) (by omega)
theorem scan_skip (l:List UInt8) (acc:List Tk):∀ (n k:Nat),l.length - k≤n→scan l k acc=scan l (upto isSp l k) acc
 | 0,k,h=>by rw [upto_end isSp l k (by omega)]
 | n+1,k,h=>by
  by_cases hk:k < l.length
  · cases hs:isSp (l.getD k 0) with
    | true=>rw [scan_sp l k acc hk hs,upto_yes isSp l k hk hs]; exact scan_skip l acc n (k+1) (by omega)
    | false=>rw [upto_no isSp l k hk hs]
  · rw [upto_end isSp l k (by omega)]
theorem scan_over (l:List UInt8) (k:Nat) (acc:List Tk):scan l k acc=scan l (upto isSp l k) acc:=scan_skip l acc _ k (Nat.le_refl _)
theorem upto_stop (p:UInt8→Bool) (l:List UInt8):∀ (n k:Nat),l.length - k≤n→upto p l k < l.length→p (l.getD (upto p l k) 0)=false
 | 0,k,h,h2=>by have:=le_upto p l k; omega
 | n+1,k,h,h2=>by
  by_cases hk:k < l.length
  · cases hs:p (l.getD k 0) with
    | true=>rw [upto_yes p l k hk hs] at h2 ⊢; exact upto_stop p l n (k+1) (by omega) h2
    | false=>rw [upto_no p l k hk hs]; exact hs
  · have:=le_upto p l k; omega
theorem upto_off (p:UInt8→Bool) (l:List UInt8) (k:Nat) (h:upto p l k < l.length):p (l.getD (upto p l k) 0)=false:=upto_stop p l _ k (Nat.le_refl _) h
def valOn (n:Nat) (l:List UInt8):Nat:=l.foldl (fun n c=>10 * n+(c.toNat - 48)) n
theorem le_valOn:∀ (l:List UInt8) (n:Nat),n≤valOn n l
 | [],n=>Nat.le_refl _
 | c :: r,n=>by have:=le_valOn r (10 * n+(c.toNat - 48)); unfold valOn at this ⊢; rw [List.foldl_cons]; omega
theorem parseUintM_digits:∀ (l:List UInt8) (n:Nat),(∀ c ∈ l,isDg c=true)→n≤18446744073709551615 →
 Lib.parseUintM 18446744073709551615 n l=if valOn n l≤18446744073709551615 then .ok (valOn n l) else .range
 | [],n,_,h=>by rw [Lib.parseUintM,valOn,List.foldl_nil,if_pos h]
 | c :: r,n,hd,h=>by
  have hc:=hd c (by simp)
  simp only [isDg,Bool.and_eq_true,decide_eq_true_eq] at hc
  have hv:valOn n (c :: r)=valOn (10 * n+(c.toNat - 48)) r:=rfl
  have hl:=le_valOn r (10 * n+(c.toNat - 48))
  rw [Lib.parseUintM,if_pos hc,hv]
  by_cases h1:1844674407370955162≤n
  · rw [if_pos h1,if_neg (by omega)]
  · rw [if_neg h1]
    by_cases h2:18446744073709551615 < n * 10+(c.toNat - 48)
    · rw [if_pos h2,if_neg (by omega)]
    · rw [if_neg h2,show n * 10+(c.toNat - 48)=10 * n+(c.toNat - 48) from by omega]
      exact parseUintM_digits r _ (fun x hx=>hd x (by simp [hx])) (by omega)
theorem parseInt_digits (l:List UInt8) (hn:l ≠ []) (hd:∀ c ∈ l,isDg c=true) :
 Lib.parseIntB 64 l=if val l≤9223372036854775807 then .ok (val l:Int) else .range:=by
 obtain ⟨c,r,rfl⟩:=List.exists_cons_of_ne_nil hn
 have hc:=hd c (by simp)
 simp only [isDg,Bool.and_eq_true,decide_eq_true_eq] at hc
 have h:=parseUintM_digits (c :: r) 0 hd (by omega)
 have hv:valOn 0 (c :: r)=val (c :: r):=rfl
 rw [hv] at h
 unfold Lib.parseIntB
 simp only
 rw [if_neg (by omega:¬ (c.toNat=43 ∨ c.toNat=45))]
 unfold Lib.parseUintB
 rw [if_neg (by simp),show 2 ^ 64 - 1=18446744073709551615 from by decide,h]
 by_cases h1:val (c :: r)≤18446744073709551615
 · rw [if_pos h1]
   simp only
   rw [if_neg (by omega:¬ (c.toNat=45∧2 ^ (64 - 1) < val (c :: r))),if_neg (by omega:¬ c.toNat=45)]
   by_cases h2:val (c :: r)≤9223372036854775807
   · rw [if_pos h2,if_neg (by omega)]
   · rw [if_neg h2,if_pos (by omega)]
 · rw [if_neg h1,if_neg (by omega)]
theorem digits_of_mid (l:List UInt8) (k:Nat):∀ c ∈ mid l k (upto isDg l k),isDg c=true:=by
 rw [mid_upto]
 intro c hc
 exact List.all_eq_true.1 (List.all_takeWhile (p:=isDg)) c hc
theorem fixedFrom_here (w:List UInt8) (k:Nat) (hk:k≤18) (h:texts.getD k []=w):fixedFrom w (19 - k) k=some k:=by
 rw [show 19 - k=(18 - k)+1 from by omega,fixedFrom,if_pos h]
theorem fixedFrom_next (w:List UInt8) (k:Nat) (hk:k≤18) (h:¬ texts.getD k []=w):fixedFrom w (19 - k) k=fixedFrom w (19 - (k+1)) (k+1):=by
 rw [show 19 - k=(19 - (k+1))+1 from by omega,fixedFrom,if_neg h]
theorem at_getD (s:ByteArray) (k:Nat) (h:k < s.size):s[k]=s.data.toList.getD k 0:=by
 rw [getD_at _ _ (by rw [← Lib.size_eq]; exact h)]
 simp [ByteArray.getElem_eq_getElem_data]
theorem extract_size (s:ByteArray) (a b:Nat) (hb:b≤s.size):(s.extract a b).size=b - a:=by
 rw [Lib.size_eq,Lib.extract_data,List.length_take,List.length_drop,← Lib.size_eq]; omega
theorem mid_ne (l:List UInt8) (p:UInt8→Bool) (k:Nat) (h:k < l.length) (hp:p (l.getD k 0)=true):mid l k (upto p l k) ≠ []:=by
 intro h0
 have h1:=mid_length l k (upto p l k) (upto_le p l k (by omega))
 have h2:=le_upto p l (k+1)
 rw [h0,upto_yes p l k h hp] at h1
 simp at h1; omega
def signFrom (l:List UInt8) (k:Nat):Nat→Option (Tk × Nat)
 | 0=>none
 | j+1=>match fixTok l k (k+(j+1)) with
  | some x=>some x
  | none=>signFrom l k j
theorem fixTok_none {l:List UInt8} {k e:Nat}:fixTok l k e=none ↔ fixedK (mid l k e)=none:=by
 unfold fixTok; exact Option.map_eq_none_iff
theorem signFrom_two (l:List UInt8) (k:Nat) (h:k+2≤l.length):signFrom l k 2=if k+2≤l.length∧fixedK (mid l k (k+2)) ≠ none then fixTok l k (k+2) else fixTok l k (k+1):=by
 rw [signFrom,signFrom,signFrom]
 cases h2:fixTok l k (k+(1+1)) with
 | some x =>
  have:fixedK (mid l k (k+2)) ≠ none:=fun h0=>by rw [fixTok_none.2 h0] at h2; cases h2
  rw [if_pos ⟨h,this⟩,← h2]; simp only [h2]
 | none =>
  have:fixedK (mid l k (k+2))=none:=fixTok_none.1 h2
  rw [if_neg (by simp [this])]
  cases fixTok l k (k+(0+1)) <;> rfl
theorem signFrom_one (l:List UInt8) (k:Nat) (h:¬ k+2≤l.length):signFrom l k 1=if k+2≤l.length∧fixedK (mid l k (k+2)) ≠ none then fixTok l k (k+2) else fixTok l k (k+1):=by
 rw [signFrom,signFrom,if_neg (fun x=>h x.1)]
 cases fixTok l k (k+(0+1)) <;> rfl
theorem fixTok_some {l:List UInt8} {k e:Nat} {x:Tk × Nat} (h:fixTok l k e=some x):x.2=e:=by
 unfold fixTok at h
 rw [Option.map_eq_some_iff] at h
 obtain ⟨j,_,rfl⟩:=h
 rfl
theorem signFrom_none (l:List UInt8) (k e:Nat) (h:k < e) (hn:fixTok l k e=none):signFrom l k (e - k)=signFrom l k (e - 1 - k):=by
 rw [show e - k=(e - 1 - k)+1 from by omega,signFrom,show k+(e - 1 - k+1)=e from by omega,hn]
theorem signFrom_some (l:List UInt8) (k e:Nat) (x:Tk × Nat) (h:k < e) (hn:fixTok l k e=some x):signFrom l k (e - k)=some x:=by
 rw [show e - k=(e - 1 - k)+1 from by omega,signFrom,show k+(e - 1 - k+1)=e from by omega,hn]
def one (F:Option Nat):Nat × Nat:=match F with
 | some j=>(j,1)
 | none=>(0,0)
def textB (t:Tk):List UInt8:=if t.1=1 then Lib.itoa t.2.1 else if t.1=2 then [UInt8.ofNat (97+t.2.1.toNat)] else texts.getD t.1.toNat []
theorem scanF_len (l:List UInt8):∀ (n k:Nat) (acc:List Tk),(scanF n l k acc).1.length≤acc.length+n
 | 0,_,acc=>by rw [scanF]; exact Nat.le_refl _
 | n+1,k,acc=>by
  rw [scanF]
  by_cases hk:k < l.length
  · rw [if_pos hk]
    by_cases hs:isSp (l.getD k 0)=true
    · rw [if_pos hs]; have:=scanF_len l n (k+1) acc; omega
    · rw [if_neg hs]
      cases tokAt l k with
      | none=>simp
      | some x =>
       obtain ⟨t,e⟩:=x
       have:=scanF_len l n e (acc ++ [t])
       simp only [List.length_append,List.length_cons,List.length_nil] at this ⊢
       omega
  · rw [if_neg hk]; exact Nat.le_add_right _ _
theorem scan_len (l:List UInt8):(scan l 0 []).1.length≤l.length:=by
 have:=scanF_len l (l.length - 0) 0 []
 unfold scan
 simpa using this

inductive Res where
 | ok (k:Nat) (o:List Tk)
 | bad (k:Nat)
def knd (ts:List Tk) (k:Nat):Int:=(ts[k]?.map fun t=>t.1).getD 0
def num (ts:List Tk) (k:Nat):Int:=(ts[k]?.map fun t=>t.2.1).getD 0
def lvl (x:Int):Nat :=
 if x=13 then 1 else if x=12 then 2 else if 8≤x∧x≤11 then 3 else if x=3 ∨ x=4 then 4 else if 5≤x∧x≤7 then 5 else 0
def isOpd (x:Int):Bool:=decide (x=1) || decide (x=2) || decide (x=15) || decide (x=16)
def thenR (r:Option Res) (f:Nat→List Tk→Option Res):Option Res :=
 match r with
 | none=>none
 | some (.bad k)=>some (.bad k)
 | some (.ok k o)=>f k o
def rd (ts:List Tk):Nat→Nat→Nat→List Tk→Option Res
 | 0,_,_,_=>none
 | n+1,lv,k,out =>
  if lv=6 then
   if knd ts k=4 then thenR (rd ts n 6 (k+1) out) fun k' o=>some (.ok k' (o ++ [(19,0,0)]))
   else if isOpd (knd ts k)=true then some (.ok (k+1) (out ++ [(knd ts k,num ts k,0)]))
   else if knd ts k=17 then thenR (rd ts n 1 (k+1) out) fun k' o=>if knd ts k'=18 then some (.ok (k'+1) o) else some (.bad k')
   else some (.bad k)
  else if lv=3 then
   if knd ts k=14 then thenR (rd ts n 3 (k+1) out) fun k' o=>some (.ok k' (o ++ [(14,0,0)]))
   else thenR (rd ts n 4 k out) fun k' o =>
    if lvl (knd ts k')=3 then thenR (rd ts n 4 (k'+1) o) fun k'' o'=>some (.ok k'' (o' ++ [(knd ts k',0,0)])) else some (.ok k' o)
  else if lv < 6 then thenR (rd ts n (lv+1) k out) fun k' o=>rd ts n (10+lv) k' o
  else if lvl (knd ts k)=lv - 10∧k < ts.length then thenR (rd ts n (lv - 9) (k+1) out) fun k' o=>rd ts n lv k' (o ++ [(knd ts k,0,0)])
  else some (.ok k out)

theorem knd_lt {ts:List Tk} {k:Nat} (h:knd ts k ≠ 0):k < ts.length:=by
 rcases Nat.lt_or_ge k ts.length with h1 | h1
 · exact h1
 · exact absurd (by unfold knd; rw [List.getElem?_eq_none h1]; rfl) h
theorem knd_end (ts:List Tk):knd ts ts.length=0:=by unfold knd; simp
theorem knd_at {ts:List Tk} {k:Nat} {t:Tk} (h:ts[k]?=some t):knd ts k=t.1:=by unfold knd; rw [h]; rfl
theorem num_at {ts:List Tk} {k:Nat} {t:Tk} (h:ts[k]?=some t):num ts k=t.2.1:=by unfold num; rw [h]; rfl
theorem lvl_zero:lvl 0=0:=by decide
theorem lvl_lt {ts:List Tk} {k:Nat} (h:lvl (knd ts k) ≠ 0):k < ts.length:=knd_lt (fun h0=>h (by rw [h0]; exact lvl_zero))
theorem opd_lt {ts:List Tk} {k:Nat} (h:isOpd (knd ts k)=true):k < ts.length:=knd_lt (fun h0=>by rw [h0] at h; exact absurd h (by decide))
theorem lvl_le (x : Int) : lvl x ≤ 5 := by unfold lvl; split; · omega
                                           split; · omega
                                           split; · omega
                                           split; · omega
                                           split <;> omega

theorem rd6_neg {ts:List Tk} {k:Nat} (n:Nat) (out:List Tk) (h:knd ts k=4):rd ts (n+1) 6 k out=thenR (rd ts n 6 (k+1) out) fun k' o=>some (.ok k' (o ++ [(19,0,0)])):=by
 rw [rd,if_pos rfl,if_pos h]
theorem rd6_opd {ts:List Tk} {k:Nat} (n:Nat) (out:List Tk) (h:isOpd (knd ts k)=true):rd ts (n+1) 6 k out=some (.ok (k+1) (out ++ [(knd ts k,num ts k,0)])):=by
 rw [rd,if_pos rfl,if_neg (fun h4=>by rw [h4] at h; exact absurd h (by decide)),if_pos h]
theorem rd6_open {ts:List Tk} {k:Nat} (n:Nat) (out:List Tk) (h:knd ts k=17):rd ts (n+1) 6 k out=thenR (rd ts n 1 (k+1) out) fun k' o=>if knd ts k'=18 then some (.ok (k'+1) o) else some (.bad k'):=by
 rw [rd,if_pos rfl,if_neg (by omega),if_neg (by rw [h]; decide),if_pos h]
theorem rd6_bad {ts:List Tk} {k:Nat} (n:Nat) (out:List Tk) (h1:knd ts k ≠ 4) (h2:isOpd (knd ts k)=false) (h3:knd ts k ≠ 17):rd ts (n+1) 6 k out=some (.bad k):=by
 rw [rd,if_pos rfl,if_neg h1,if_neg (by rw [h2]; decide),if_neg h3]
theorem rd3_not {ts:List Tk} {k:Nat} (n:Nat) (out:List Tk) (h:knd ts k=14):rd ts (n+1) 3 k out=thenR (rd ts n 3 (k+1) out) fun k' o=>some (.ok k' (o ++ [(14,0,0)])):=by
 rw [rd,if_neg (by omega),if_pos rfl,if_pos h]
theorem rd3_cmp {ts : List Tk} {k : Nat} (n : Nat) (out : List Tk) (h : knd ts k ≠ 14) : rd ts (n + 1) 3 k out = thenR (rd ts n 4 k out) fun k' o =>
        if lvl (knd ts k')=3 then thenR (rd ts n 4 (k'+1) o) fun k'' o'=>some (.ok k'' (o' ++ [(knd ts k',0,0)])) else some (.ok k' o):=by
 rw [rd,if_neg (by omega),if_pos rfl,if_neg h]
theorem rd_row {ts:List Tk} {k:Nat} (n lv:Nat) (out:List Tk) (h1:lv < 6) (h2:lv ≠ 3):rd ts (n+1) lv k out=thenR (rd ts n (lv+1) k out) fun k' o=>rd ts n (10+lv) k' o:=by
 rw [rd,if_neg (by omega),if_neg h2,if_pos h1]
theorem rd_rest {ts:List Tk} {k:Nat} (n lv:Nat) (out:List Tk) (h0:1≤lv) (h:lvl (knd ts k)=lv):rd ts (n+1) (10+lv) k out=thenR (rd ts n (lv+1) (k+1) out) fun k' o=>rd ts n (10+lv) k' (o ++ [(knd ts k,0,0)]):=by
 rw [rd,if_neg (by omega),if_neg (by omega),if_neg (by omega),if_pos ⟨by omega,lvl_lt (by omega)⟩,show 10+lv - 9=lv+1 from by omega]
theorem rd_done {ts:List Tk} {k:Nat} (n lv:Nat) (out:List Tk) (h:lvl (knd ts k) ≠ lv):rd ts (n+1) (10+lv) k out=some (.ok k out):=by
 rw [rd,if_neg (by omega),if_neg (by omega),if_neg (by omega),if_neg (by omega)]

theorem thenR_some {r:Option Res} {f:Nat→List Tk→Option Res} {R:Res} (h:thenR r f=some R):(∃ k,r=some (.bad k)∧R=.bad k) ∨ ∃ k o,r=some (.ok k o)∧f k o=some R:=by
 unfold thenR at h
 rcases r with _ | (⟨k,o⟩ | k)
 · cases h
 · exact .inr ⟨k,o,rfl,h⟩
 · injection h with h; exact .inl ⟨k,rfl,h.symm⟩

def Fits (ts:List Tk) (k:Nat) (out:List Tk):Res→Prop
 | .ok k' o=>k≤k'∧k'≤ts.length∧o.length+k≤out.length+k'
 | .bad k'=>k≤k'∧k'≤ts.length
theorem rd_fits (ts:List Tk):∀ (n lv k:Nat) (out:List Tk) (R:Res),rd ts n lv k out=some R→k≤ts.length→Fits ts k out R
 | 0,_,_,_,_,h,_=>by rw [rd] at h; cases h
 | n+1,lv,k,out,R,h,hk=>by
  by_cases h6:lv=6
  · subst h6
    by_cases c1:knd ts k=4
    · have hlt:=knd_lt (ts:=ts) (k:=k) (by omega)
      rw [rd6_neg n out c1] at h
      rcases thenR_some h with ⟨k',h1,rfl⟩ | ⟨k',o,h1,h2⟩
      · have:=rd_fits ts n _ _ _ _ h1 (by omega); unfold Fits at this ⊢; omega
      · have:=rd_fits ts n _ _ _ _ h1 (by omega); injection h2 with h2; subst h2; unfold Fits at this ⊢; simp only [List.length_append,List.length_cons,List.length_nil]; omega
    · by_cases c2:isOpd (knd ts k)=true
      · have hlt:=opd_lt c2
        rw [rd6_opd n out c2] at h; injection h with h; subst h; unfold Fits; simp only [List.length_append,List.length_cons,List.length_nil]; omega
      · by_cases c3:knd ts k=17
        · have hlt:=knd_lt (ts:=ts) (k:=k) (by omega)
          rw [rd6_open n out c3] at h
          rcases thenR_some h with ⟨k',h1,rfl⟩ | ⟨k',o,h1,h2⟩
          · have:=rd_fits ts n _ _ _ _ h1 (by omega); unfold Fits at this ⊢; omega
          · have:=rd_fits ts n _ _ _ _ h1 (by omega)
            by_cases c4:knd ts k'=18
            · have hlt:=knd_lt (ts:=ts) (k:=k') (by omega)
              rw [if_pos c4] at h2; injection h2 with h2; subst h2; unfold Fits at this ⊢; omega
            · rw [if_neg c4] at h2; injection h2 with h2; subst h2; unfold Fits at this ⊢; omega
        · rw [rd6_bad n out c1 (by simpa using c2) c3] at h; injection h with h; subst h; unfold Fits; omega
  · by_cases h3:lv=3
    · subst h3
      by_cases c1:knd ts k=14
      · have hlt:=knd_lt (ts:=ts) (k:=k) (by omega)
        rw [rd3_not n out c1] at h
        rcases thenR_some h with ⟨k',h1,rfl⟩ | ⟨k',o,h1,h2⟩
        · have:=rd_fits ts n _ _ _ _ h1 (by omega); unfold Fits at this ⊢; omega
        · have:=rd_fits ts n _ _ _ _ h1 (by omega); injection h2 with h2; subst h2; unfold Fits at this ⊢; simp only [List.length_append,List.length_cons,List.length_nil]; omega
      · rw [rd3_cmp n out c1] at h
        rcases thenR_some h with ⟨k',h1,rfl⟩ | ⟨k',o,h1,h2⟩
        · exact rd_fits ts n _ _ _ _ h1 hk
        · have f1:=rd_fits ts n _ _ _ _ h1 hk
          by_cases c4:lvl (knd ts k')=3
          · have hlt:=lvl_lt (ts:=ts) (k:=k') (by omega)
            rw [if_pos c4] at h2
            rcases thenR_some h2 with ⟨k'',h3,rfl⟩ | ⟨k'',o',h3,h4⟩
            · have:=rd_fits ts n _ _ _ _ h3 (by omega); unfold Fits at this f1 ⊢; omega
            · have:=rd_fits ts n _ _ _ _ h3 (by omega); injection h4 with h4; subst h4; unfold Fits at this f1 ⊢; simp only [List.length_append,List.length_cons,List.length_nil]; omega
          · rw [if_neg c4] at h2; injection h2 with h2; subst h2; exact f1
    · by_cases hl:lv < 6
      · rw [rd_row n lv out hl h3] at h
        rcases thenR_some h with ⟨k',h1,rfl⟩ | ⟨k',o,h1,h2⟩
        · exact rd_fits ts n _ _ _ _ h1 hk
        · have f1:=rd_fits ts n _ _ _ _ h1 hk
          have f2:=rd_fits ts n _ _ _ _ h2 (by unfold Fits at f1; omega)
          cases R <;> unfold Fits at f1 f2 ⊢ <;> omega
      · by_cases hc:lvl (knd ts k)=lv - 10∧k < ts.length
        · have hlt:=hc.2
          rw [rd,if_neg h6,if_neg h3,if_neg hl,if_pos hc] at h
          rcases thenR_some h with ⟨k',h1,rfl⟩ | ⟨k',o,h1,h2⟩
          · have:=rd_fits ts n _ _ _ _ h1 (by omega); unfold Fits at this ⊢; omega
          · have f1:=rd_fits ts n _ _ _ _ h1 (by omega)
            have f2:=rd_fits ts n _ _ _ _ h2 (by unfold Fits at f1; omega)
            cases R <;> unfold Fits at f1 f2 ⊢ <;> simp only [List.length_append,List.length_cons,List.length_nil] at * <;> omega
        · rw [rd,if_neg h6,if_neg h3,if_neg hl,if_neg hc] at h
          injection h with h; subst h; unfold Fits; omega

def Got (ts:List Tk) (lv k:Nat) (r:Option Res):Prop:=∃ R,r=some R∧∀ k' o,R=.ok k' o→k'≤ts.length∧k≤k'∧(lv≤6→k < k')
theorem Got.bad (ts:List Tk) (lv k k':Nat):Got ts lv k (some (.bad k')):=⟨_,rfl,fun _ _ h=>by cases h⟩
theorem got_then {ts:List Tk} {lv k lv' k1:Nat} {r:Option Res} {f:Nat→List Tk→Option Res} (h:Got ts lv' k1 r) (hf:∀ k' o,r=some (.ok k' o)→k'≤ts.length→k1≤k'→(lv'≤6→k1 < k')→Got ts lv k (f k' o)):Got ts lv k (thenR r f):=by
 obtain ⟨R,rfl,hR⟩:=h
 cases R with
 | bad k'=>exact Got.bad ts lv k k'
 | ok k' o=>obtain ⟨a,b,c⟩:=hR k' o rfl; exact hf k' o rfl a b c
theorem Got.ok {ts:List Tk} {lv k k':Nat} (o:List Tk) (h1:k'≤ts.length) (h2:k≤k') (h3:lv≤6→k < k'):Got ts lv k (some (.ok k' o)) :=
 ⟨_,rfl,fun a b h=>by injection h with ha hb; subst ha; exact ⟨h1,h2,h3⟩⟩
def need (len lv k:Nat):Nat:=20 * (len - k)+(if lv≤6 then 20 - 2 * lv else 20)
theorem rd_some (ts:List Tk):∀ (n lv k:Nat) (out:List Tk),1≤lv→lv≤6 ∨ 11≤lv→k≤ts.length→need ts.length lv k < n→Got ts lv k (rd ts n lv k out)
 | 0,_,_,_,_,_,_,h=>by omega
 | n+1,lv,k,out,h1,h2,hk,h=>by
  unfold need at h
  by_cases h6:lv=6
  · subst h6
    rw [if_pos (by omega)] at h
    by_cases c1:knd ts k=4
    · have hlt:=knd_lt (ts:=ts) (k:=k) (by omega)
      rw [rd6_neg n out c1]
      exact got_then (rd_some ts n 6 (k+1) out (by omega) (by omega) (by omega) (by unfold need; rw [if_pos (by omega)]; omega)) fun k' o _ a b c=>Got.ok _ a (by omega) (by omega)
    · by_cases c2:isOpd (knd ts k)=true
      · have hlt:=opd_lt c2
        rw [rd6_opd n out c2]; exact Got.ok _ (by omega) (by omega) (by omega)
      · by_cases c3:knd ts k=17
        · have hlt:=knd_lt (ts:=ts) (k:=k) (by omega)
          rw [rd6_open n out c3]
          refine got_then (rd_some ts n 1 (k+1) out (by omega) (by omega) (by omega) (by unfold need; rw [if_pos (by omega)]; omega)) fun k' o _ a b c=>?_
          by_cases c4:knd ts k'=18
          · have hlt:=knd_lt (ts:=ts) (k:=k') (by omega)
            rw [if_pos c4]; exact Got.ok _ (by omega) (by omega) (by omega)
          · rw [if_neg c4]; exact Got.bad _ _ _ _
        · rw [rd6_bad n out c1 (by simpa using c2) c3]; exact Got.bad _ _ _ _
  · by_cases h3:lv=3
    · subst h3
      rw [if_pos (by omega)] at h
      by_cases c1:knd ts k=14
      · have hlt:=knd_lt (ts:=ts) (k:=k) (by omega)
        rw [rd3_not n out c1]
        exact got_then (rd_some ts n 3 (k+1) out (by omega) (by omega) (by omega) (by unfold need; rw [if_pos (by omega)]; omega)) fun k' o _ a b c=>Got.ok _ a (by omega) (by omega)
      · rw [rd3_cmp n out c1]
        refine got_then (rd_some ts n 4 k out (by omega) (by omega) (by omega) (by unfold need; rw [if_pos (by omega)]; omega)) fun k' o _ a b c=>?_
        have c':=c (by omega)
        by_cases c4:lvl (knd ts k')=3
        · have hlt:=lvl_lt (ts:=ts) (k:=k') (by omega)
          rw [if_pos c4]
          exact got_then (rd_some ts n 4 (k'+1) o (by omega) (by omega) (by omega) (by unfold need; rw [if_pos (by omega)]; omega)) fun k'' o _ a b c=>Got.ok _ a (by omega) (by omega)
        · rw [if_neg c4]; exact Got.ok _ a b (fun _=>c (by omega))
    · by_cases hl:lv < 6
      · rw [if_pos (by omega)] at h
        rw [rd_row n lv out hl h3]
        refine got_then (rd_some ts n (lv+1) k out (by omega) (by omega) (by omega) (by unfold need; rw [if_pos (by omega)]; omega)) fun k' o _ a b c=>?_
        have c':=c (by omega)
        obtain ⟨R,hR,hf⟩:=rd_some ts n (10+lv) k' o (by omega) (by omega) (by omega) (by unfold need; rw [if_neg (by omega)]; omega)
        exact ⟨R,hR,fun x y hx=>by obtain ⟨p,q,_⟩:=hf x y hx; exact ⟨p,by omega,fun _=>by omega⟩⟩
      · rw [if_neg (by omega)] at h
        obtain ⟨l,rfl⟩:∃ l,lv=10+l:=⟨lv - 10,by omega⟩
        by_cases hc:lvl (knd ts k)=l
        · have hlt:=lvl_lt (ts:=ts) (k:=k) (by omega)
          have hle:=lvl_le (knd ts k)
          rw [rd_rest n l out (by omega) hc]
          refine got_then (rd_some ts n (l+1) (k+1) out (by omega) (by omega) (by omega) (by unfold need; rw [if_pos (by omega)]; omega)) fun k' o _ a b c=>?_
          have c':=c (by omega)
          obtain ⟨R,hR,hf⟩:=rd_some ts n (10+l) k' (o ++ [(knd ts k,0,0)]) (by omega) (by omega) (by omega) (by unfold need; rw [if_neg (by omega)]; omega)
          exact ⟨R,hR,fun x y hx=>by obtain ⟨p,q,_⟩:=hf x y hx; exact ⟨p,by omega,fun _=>by omega⟩⟩
        · rw [rd_done n l out hc]; exact Got.ok _ hk (by omega) (by omega)
def readAll (ts:List Tk):Option Res:=rd ts (20 * ts.length+20) 1 0 []
theorem readAll_some (ts:List Tk):∃ R,readAll ts=some R:=by
 obtain ⟨R,h,_⟩:=rd_some ts (20 * ts.length+20) 1 0 [] (by omega) (by omega) (by omega) (by unfold need; rw [if_pos (by omega)]; omega)
 exact ⟨R,h⟩
end Go.Proofs.YtmhkpjcdkjnlnaaGreatDoor
