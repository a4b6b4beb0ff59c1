/- The contract of expr.Of: a text's value, or what is amiss. -/
import Derived.Test.YtmhkpjcdkjnlnaaGreatDoorFWEans
import Derived.Test.YtmhkpjcdkjnlnaaGreatDoorFWPparse
namespace Go.Proofs.YtmhkpjcdkjnlnaaGreatDoor
open Go.ChangeShapes Go.WideShapes Go.ChangeAt Go.RowKit
set_option linter.unusedVariables false

def SmallT (t:Tk):Prop:=t.2.1≤9223372036854775807
theorem u8_lt (c:UInt8):c.toNat < 256:=c.toNat_lt
theorem tokAt_small {l:List UInt8} {k e:Nat} {t:Tk} (h:tokAt l k=some (t,e)):SmallT t:=by
 unfold tokAt fixTok at h
 unfold SmallT
 split at h
 · split at h
   · simp only [Option.some.injEq,Prod.mk.injEq] at h; rw [← h.1]; simp only; omega
   · cases h
 · split at h
   · split at h
     · simp only [Option.some.injEq,Prod.mk.injEq] at h; rw [← h.1]; have:=u8_lt (l.getD k 0); simp only; omega
     · rw [Option.map_eq_some_iff] at h
       obtain ⟨j,_,h⟩:=h
       simp only [Prod.mk.injEq] at h; rw [← h.1]; simp only; omega
   · split at h
     · rw [Option.map_eq_some_iff] at h
       obtain ⟨j,_,h⟩:=h
       simp only [Prod.mk.injEq] at h; rw [← h.1]; simp only; omega
     · rw [Option.map_eq_some_iff] at h
       obtain ⟨j,_,h⟩:=h
       simp only [Prod.mk.injEq] at h; rw [← h.1]; simp only; omega
theorem scanF_small (l:List UInt8):∀ (n k:Nat) (acc:List Tk),(∀ t ∈ acc,SmallT t)→∀ t ∈ (scanF n l k acc).1,SmallT t
 | 0,k,acc,h=>by rw [scanF]; exact h
 | n+1,k,acc,h=>by
  rw [scanF]
  by_cases hk:k < l.length
  · rw [if_pos hk]
    by_cases hs:isSp (l.getD k 0)=true
    · rw [if_pos hs]; exact scanF_small l n (k+1) acc h
    · rw [if_neg hs]
      cases ht:tokAt l k with
      | none=>intro t ht; cases ht
      | some x =>
       refine scanF_small l n x.2 (acc ++ [x.1]) (fun t h1=>?_)
       rcases List.mem_append.1 h1 with h2 | h2
       · exact h t h2
       · obtain rfl:=List.mem_singleton.1 h2
         exact tokAt_small ht
  · rw [if_neg hk]; exact h
theorem small_snoc {o:List Tk} {t:Tk} (h:∀ x ∈ o,SmallT x) (ht:SmallT t):∀ x ∈ o ++ [t],SmallT x:=by
 intro x hx
 rcases List.mem_append.1 hx with h2 | h2
 · exact h x h2
 · obtain rfl:=List.mem_singleton.1 h2; exact ht
theorem small_0 (k:Int):SmallT (k,0,0):=by unfold SmallT; simp only; omega
theorem rd_small (ts:List Tk) (hts:∀ t ∈ ts,SmallT t):∀ (n lv k:Nat) (out:List Tk) (k':Nat) (o:List Tk),rd ts n lv k out=some (.ok k' o)→(∀ t ∈ out,SmallT t)→∀ t ∈ o,SmallT t
 | 0,_,_,_,_,_,h,_=>by rw [rd] at h; cases h
 | n+1,lv,k,out,kk,oo,h,ho=>by
  have ih:=rd_small ts hts n
  have hnum:∀ k,SmallT (knd ts k,num ts k,0):=fun k=>by
   unfold SmallT num
   simp only
   cases hg:ts[k]? with
   | none=>simp
   | some t=>exact hts t (List.mem_of_getElem? hg)
  rw [rd] at h
  by_cases h6:lv=6
  · rw [if_pos h6] at h
    by_cases c1:knd ts k=4
    · rw [if_pos c1] at h
      rcases thenR_some h with ⟨k',h1,h2⟩ | ⟨k',o,h1,h2⟩
      · cases h2
      · injection h2 with h2; injection h2 with h3 h4; subst h4; exact small_snoc (ih _ _ _ _ _ h1 ho) (small_0 19)
    · rw [if_neg c1] at h
      by_cases c2:isOpd (knd ts k)=true
      · rw [if_pos c2] at h
        injection h with h; injection h with h3 h4; subst h4; exact small_snoc ho (hnum k)
      · rw [if_neg c2] at h
        by_cases c3:knd ts k=17
        · rw [if_pos c3] at h
          rcases thenR_some h with ⟨k',h1,h2⟩ | ⟨k',o,h1,h2⟩
          · cases h2
          · by_cases c4:knd ts k'=18
            · rw [if_pos c4] at h2; injection h2 with h2; injection h2 with h3 h4; subst h4; exact ih _ _ _ _ _ h1 ho
            · rw [if_neg c4] at h2; injection h2 with h2; cases h2
        · rw [if_neg c3] at h; injection h with h; cases h
  · rw [if_neg h6] at h
    by_cases h3:lv=3
    · rw [if_pos h3] at h
      by_cases c1:knd ts k=14
      · rw [if_pos c1] at h
        rcases thenR_some h with ⟨k',h1,h2⟩ | ⟨k',o,h1,h2⟩
        · cases h2
        · injection h2 with h2; injection h2 with h3 h4; subst h4; exact small_snoc (ih _ _ _ _ _ h1 ho) (small_0 14)
      · rw [if_neg c1] at h
        rcases thenR_some h with ⟨k',h1,h2⟩ | ⟨k',o,h1,h2⟩
        · cases h2
        · by_cases c4:lvl (knd ts k')=3
          · rw [if_pos c4] at h2
            rcases thenR_some h2 with ⟨k'',h5,h6⟩ | ⟨k'',o',h5,h6⟩
            · cases h6
            · injection h6 with h6; injection h6 with h7 h8; subst h8; exact small_snoc (ih _ _ _ _ _ h5 (ih _ _ _ _ _ h1 ho)) (small_0 _)
          · rw [if_neg c4] at h2; injection h2 with h2; injection h2 with h7 h8; subst h8; exact ih _ _ _ _ _ h1 ho
    · rw [if_neg h3] at h
      by_cases hl:lv < 6
      · rw [if_pos hl] at h
        rcases thenR_some h with ⟨k',h1,h2⟩ | ⟨k',o,h1,h2⟩
        · cases h2
        · exact ih _ _ _ _ _ h2 (ih _ _ _ _ _ h1 ho)
      · rw [if_neg hl] at h
        by_cases hc:lvl (knd ts k)=lv - 10∧k < ts.length
        · rw [if_pos hc] at h
          rcases thenR_some h with ⟨k',h1,h2⟩ | ⟨k',o,h1,h2⟩
          · cases h2
          · exact ih _ _ _ _ _ h2 (small_snoc (ih _ _ _ _ _ h1 ho) (small_0 _))
        · rw [if_neg hc] at h; injection h with h; injection h with h7 h8; subst h8; exact ho
theorem parse_toks {s:List UInt8} {o:List Tk} (h:parseAns s=.toks o):o.length≤100∧(∀ t ∈ o,t.2.1≤9223372036854775807)∧s.length≤200∧(scan s 0 []).2=-1∧readAll (scan s 0 []).1=some (.ok (scan s 0 []).1.length o):=by
 unfold parseAns at h
 split at h
 · rename_i hl
   unfold ansIn at h
   split at h
   · rename_i hm
     obtain ⟨R,hR⟩:=readAll_some (scan s 0 []).1
     rw [hR] at h
     cases R with
     | bad k=>cases h
     | ok k o' =>
      unfold ansOf at h
      simp only at h
      split at h
      · rename_i hk
        split at h
        · rename_i h100
          injection h with h
          subst h
          subst hk
          exact ⟨h100,rd_small _ (fun t ht=>scanF_small s _ 0 [] (fun t ht=>by cases ht) t ht) _ _ _ _ _ _ hR (fun t ht=>by cases ht),hl,hm,hR⟩
        · cases h
      · cases h
   · cases h
 · cases h
end Go.Proofs.YtmhkpjcdkjnlnaaGreatDoor
