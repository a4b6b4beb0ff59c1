/- The contract of parse.Parse: the postfix of any text in memory of its own; or where it can't go on; or that it is too large. -/
import Derived.Test.YtmhkpjcdkjnlnaaGreatDoorFUTmay
import Derived.Test.YtmhkpjcdkjnlnaaGreatDoorFUZtoks
import Derived.Test.YtmhkpjcdkjnlnaaGreatDoorFUEans
import Derived.Test.YtmhkpjcdkjnlnaaGreatDoorFUCarg
import Derived.Test.YtmhkpjcdkjnlnaaGreatDoorFUCs
namespace Go.Proofs.YtmhkpjcdkjnlnaaGreatDoor
open Go.ChangeShapes Go.WideShapes Go.ChangeAt Go.RowKit
set_option linter.unusedVariables false

inductive Ans where
 | toks (o:List Tk)
 | form (k:Int)
 | large
def ansOf (ts:List Tk) (len:Nat):Res→Ans
 | .bad k=>.form (byteAt ts len k)
 | .ok k o=>if k=ts.length then (if o.length≤100 then .toks o else .large) else .form (byteAt ts len k)
def ansIn (R:List Tk × Int) (len:Nat):Ans :=
 if R.2=-1 then (match readAll R.1 with | some r=>ansOf R.1 len r | none=>.large) else .form R.2
def parseAns (s:List UInt8):Ans:=if s.length≤200 then ansIn (scan s 0 []) s.length else .large
def PPost (a:Ans) (w:World) (e:Ending) (w':World):Prop :=
 Below w.heap.size w w'∧match a with
  | .toks o=>∃ v,e=.returned (.tuple #[v,.nilIface])∧w'.ownsRow w.heap.size 192 3 v o.length (tksCells o)
  | .form k=>∃ g,e=.returned (.tuple #[.slice none 0 0,.iface 106 (.pointer (some ⟨g,0,none⟩))])∧w.heap.size≤g∧Blk w' g 108 #[.int .i64 k,.int .i64 2]
  | .large=>e=.returned (.tuple #[.slice none 0 0,.iface 82 (.int .i64 3)])
theorem own_slice {w:World} {B:Nat} {e:TypeId} {s n:Nat} {v:Value} {xs:List Value} (h:w.ownsRow B e s v n xs):∃ A cap,v=.slice A n cap:=by
 rcases h.2 with ⟨h,h0⟩ | ⟨a,b,_,h,_⟩
 · exact ⟨none,0,by rw [h,h0]⟩
 · exact ⟨_,_,h⟩
theorem own_base {w:World} {B B':Nat} {e:TypeId} {s n:Nat} {v:Value} {xs:List Value} (h:w.ownsRow B e s v n xs) (hB:B'≤B):w.ownsRow B' e s v n xs:=by
 refine ⟨h.1,?_⟩
 rcases h.2 with h2 | ⟨a,b,c,h1,h2,h3⟩
 · exact .inl h2
 · exact .inr ⟨a,b,c,h1,Nat.le_trans hB h2,h3⟩
theorem ansOf_toks (ts:List Tk) (len k:Nat) (o:List Tk) (h:k=ts.length) (h1:o.length≤100):ansOf ts len (.ok k o)=.toks o:=by unfold ansOf; simp only; rw [if_pos h,if_pos h1]
theorem ansOf_large (ts:List Tk) (len k:Nat) (o:List Tk) (h:k=ts.length) (h1:100 < o.length):ansOf ts len (.ok k o)=.large:=by unfold ansOf; simp only; rw [if_pos h,if_neg (by omega)]
theorem ansOf_form (ts:List Tk) (len k:Nat) (o:List Tk) (h:k ≠ ts.length):ansOf ts len (.ok k o)=.form (byteAt ts len k):=by unfold ansOf; simp only; rw [if_neg h]
theorem scanF_cases (l:List UInt8):∀ (n k:Nat) (acc:List Tk),(scanF n l k acc).2=-1 ∨ ∃ k':Nat,scanF n l k acc=([],(k':Int))
 | 0,k,acc=>.inl rfl
 | n+1,k,acc=>by
  rw [scanF]
  by_cases hk:k < l.length
  · rw [if_pos hk]
    by_cases hs:isSp (l.getD k 0)=true
    · rw [if_pos hs]; exact scanF_cases l n (k+1) acc
    · rw [if_neg hs]
      cases ht:tokAt l k with
      | none=>exact .inr ⟨k,rfl⟩
      | some x=>exact scanF_cases l n x.2 (acc ++ [x.1])
  · rw [if_neg hk]; exact .inl rfl
theorem scan_cases (l:List UInt8):(scan l 0 []).2=-1 ∨ ∃ k':Nat,scan l 0 []=([],(k':Int)):=scanF_cases l _ 0 []
theorem neq_code_any (p:Value) (w:World):(binOp .neq 30 (.iface 82 p) .nilIface).run Tryz.prog w=.ok (.bool true) w:=by kernel_rfl
theorem neq_spot_any (p:Value) (w:World):(binOp .neq 30 (.iface 106 p) .nilIface).run Tryz.prog w=.ok (.bool true) w:=by kernel_rfl
theorem whole_any (ts:List Tk) (g:Nat) (vin v:Value) (R:Res) (w:World) (hl:ts.length≤1000) (hR:readAll ts=some R) (hT:ToksU g w vin ts) (hS:RSt g vin w 0 v []):Calls Tryz.prog 135 #[.pointer (some ⟨g,0,none⟩)] w (WPost ts g vin R v w):=by
 have h:=(all_read ts g vin hl _ _ (Nat.le_refl _)).r1 0 [] R v (w.drewN 1) hR (Nat.zero_le _) (by simp) (hT.drewN 1) (hS.drewN 1)
 have hf:=rd_fits ts _ 1 0 [] R hR (Nat.zero_le _)
 have h':∀ w0,w0=w.drew→Calls Tryz.prog 175 #[.pointer (some ⟨g,0,none⟩)] w0 (RPost g vin R v w):=fun w0 h0=>by
  subst h0
  exact h.mono fun e w' hp=>RPost.after ((Kept.refl g v w).drewN 1) hp
 obtain ⟨A,cap,rfl,_⟩:=hT
 cases R with
 | bad k=>exact whole_bad ts g k _ v w h'
 | ok k o=>unfold Fits at hf; exact whole_ok ts g k cap A v o w (by omega) hl h'
set_option maxHeartbeats 1000000 in
theorem parse_large (s:ByteArray) (w:World) (hs:200 < s.size) (hs2:s.size≤1000000):Calls Tryz.prog 85 #[.string s] w (PPost .large w):=by
 have hn:=fun W=>neq_code_any (.int .i64 3) W
 go_enter Tryz.func85,Tryz.ntmps85
 go_wp2_with fail
 refine (tokens_large s w hs hs2).mono ?_
 rintro e w' ⟨rfl,rfl⟩
 go_wp2_with fail
 go_ret2
 exact ⟨Below.refl _ _,rfl⟩
set_option maxHeartbeats 1000000 in
theorem parse_spot (s:ByteArray) (w:World) (hL:Laid w) (hs:s.size≤200) (k:Nat) (hR:scan s.data.toList 0 []=([],(k:Int))):Calls Tryz.prog 85 #[.string s] w (PPost (.form k) w):=by
 have HR:=Lib.hid hR
 have HL:=Lib.hid hL
 clear hR hL
 go_enter Tryz.func85,Tryz.ntmps85
 go_wp2_with fail
 refine (tokens_any s w HL.out hs).mono ?_
 intro e w' hp
 rw [HR.out] at hp
 rcases hp with ⟨hb,⟨h1,_⟩ | ⟨k',g,h1,rfl,hg,hB⟩⟩
 · simp at h1
 · have hkk:k'=k:=by simp only [Prod.mk.injEq] at h1; omega
   subst hkk
   have HG:=Lib.hid hg
   have HB:=Lib.hid hB
   have HBB:=Lib.hid hb
   have hn:=fun W=>neq_spot_any (.pointer (some ⟨g,0,none⟩)) W
   clear h1 hg hB hb
   go_wp2_with fail
   go_ret2
   exact ⟨HBB.out,g,rfl,HG.out,HB.out⟩
set_option maxHeartbeats 2000000 in
theorem parse_read (s:ByteArray) (w:World) (hL:Laid w) (hs:s.size≤200) (ts:List Tk) (R:Res) (hR:scan s.data.toList 0 []=(ts,-1)) (hA:readAll ts=some R):Calls Tryz.prog 85 #[.string s] w (PPost (ansOf ts s.size R) w):=by
 have hlen:ts.length≤200:=by have:=scan_len s.data.toList; rw [hR,← Lib.size_eq] at this; simp at this; omega
 have hf:=rd_fits ts _ 1 0 [] R hA (Nat.zero_le _)
 have HR:=Lib.hid hR
 have HA:=Lib.hid hA
 have HL:=Lib.hid hL
 have HF:=Lib.hid hf
 have hnn:=fun W=>neq_nil_nil W
 clear hR hL hA hf
 go_enter Tryz.func85,Tryz.ntmps85
 go_wp2_with fail
 refine (tokens_any s w HL.out hs).mono ?_
 intro e w1 hp
 rw [HR.out] at hp
 rcases hp with ⟨hb,⟨_,v,rfl,hown⟩ | ⟨k',g,h1,_⟩⟩
 · have HT:=Lib.hid (ToksU.of (ToksAt.of_own hown))
   obtain ⟨A,cap,rfl,_⟩:=ToksAt.of_own hown
   have HB:=Lib.hid hb
   clear hown hb
   go_wp2_with fail
   have hba:Below w1.heap.size w1 (w1.alloc (.cells #[.slice A ts.length cap,.int .i64 0,.slice none 0 0] 167)):=(Below.refl _ _).alloc (Nat.le_refl _) _
   have HS0:Hid (RSt w1.heap.size (.slice A ts.length cap) (w1.alloc (.cells #[.slice A ts.length cap,.int .i64 0,.slice none 0 0] 167)) 0 (.slice none 0 0) []):=Lib.hid ⟨Blk.new _ _ _,World.ownsRow_nil _ _ _ _⟩
   have HT0:=Lib.hid (HT.out.below hba)
   have HBA:=Lib.hid hba
   clear hba
   refine (whole_any ts w1.heap.size _ _ R _ (by omega) HA.out HT0.out HS0.out).mono ?_
   intro e w2 hw
   cases R with
   | bad k =>
    obtain ⟨rfl,v',o,hk,hst⟩:=hw
    have HK:=Lib.hid (HBA.out.mono (Nat.le_refl _) |>.trans (HS0.out.below hk))
    have HS:=Lib.hid hst
    have HTT:=Lib.hid (HT0.out.below (HS0.out.below hk))
    clear hk hst
    go_wp2_with fail
    refine (byteIn_any ts w1.heap.size k s _ v' _ o HTT.out HS.out (by have:=HF.out; unfold Fits at this; omega) (by omega) (by omega)).mono ?_
    rintro e w3 ⟨rfl,a,rfl⟩
    go_wp2_with fail
    go_ret2
    refine ⟨below_drewN ((HB.out.trans (HK.out.mono HB.out.size)).alloc (Nat.le_trans HB.out.size HK.out.size) _) a,w2.heap.size,rfl,Nat.le_trans HB.out.size HK.out.size,?_⟩
    exact Blk.new w2 108 #[.int .i64 (byteAt ts s.size k),.int .i64 2]
   | ok k o =>
    obtain ⟨rfl,v',hk,hst⟩:=hw
    have HK:=Lib.hid (HBA.out.mono (Nat.le_refl _) |>.trans (HS0.out.below hk))
    have HS:=Lib.hid hst
    have HTT:=Lib.hid (HT0.out.below (HS0.out.below hk))
    have hol:o.length≤200:=by have:=HF.out; unfold Fits at this; simp at this; omega
    have hkl:k≤ts.length:=by have:=HF.out; unfold Fits at this; omega
    obtain ⟨A',cap',hv'⟩:=own_slice hst.own
    subst hv'
    clear hk
    by_cases ha:k=ts.length
    · have hq:isAll ts k=true:=by unfold isAll; simpa using ha
      have HAK:=Lib.hid ha
      obtain ⟨⟨c0,c1,c2⟩,_⟩:=hst.blk.facts3
      rw [hq]
      clear hst ha hq
      by_cases h100:o.length≤100
      · have hd:decide (100 < o.length)=false:=by simpa using h100
        go_wp2_with fail
        go_ret2
        rw [ansOf_toks _ _ _ _ HAK.out h100]
        exact ⟨HB.out.trans (HK.out.mono HB.out.size),_,rfl,own_base HS.out.own (Nat.le_trans HB.out.size (Nat.le_succ _))⟩
      · have hd:decide (100 < o.length)=true:=by simpa using h100
        have hd2:100 < o.length:=by omega
        go_wp2_with fail
        go_ret2
        rw [ansOf_large _ _ _ _ HAK.out hd2]
        exact ⟨HB.out.trans (HK.out.mono HB.out.size),rfl⟩
    · have hq:isAll ts k=false:=by unfold isAll; simpa using ha
      have HAK:=Lib.hid ha
      rw [hq]
      clear hst ha hq
      go_wp2_with fail
      refine (byteIn_any ts w1.heap.size k s _ _ _ o HTT.out HS.out hkl (by omega) (by omega)).mono ?_
      rintro e w3 ⟨rfl,a,rfl⟩
      go_wp2_with fail
      go_ret2
      rw [ansOf_form _ _ _ _ HAK.out]
      refine ⟨below_drewN ((HB.out.trans (HK.out.mono HB.out.size)).alloc (Nat.le_trans HB.out.size HK.out.size) _) a,w2.heap.size,rfl,Nat.le_trans HB.out.size HK.out.size,?_⟩
      exact Blk.new w2 108 #[.int .i64 (byteAt ts s.size k),.int .i64 2]
 · simp at h1
theorem parse_any (s:ByteArray) (w:World) (hL:Laid w) (hs:s.size≤1000000):Calls Tryz.prog 85 #[.string s] w (PPost (parseAns s.data.toList) w):=by
 unfold parseAns
 rw [← Lib.size_eq]
 by_cases h:s.size≤200
 · rw [if_pos h]
   unfold ansIn
   rcases scan_cases s.data.toList with h1 | ⟨k,h1⟩
   · obtain ⟨R,hR⟩:=readAll_some (scan s.data.toList 0 []).1
     rw [if_pos h1,hR]
     exact parse_read s w hL h _ R (by rw [← h1]) hR
   · rw [h1,if_neg (by simp)]
     exact parse_spot s w hL h k h1
 · rw [if_neg h]
   exact parse_large s w (by omega) hs

def SmallT (t:Tk):Prop:=t.2.1≤9223372036854775807
theorem u8_lt (c:UInt8):c.toNat < 256:=c.toNat_lt
theorem tokAt_small {l:List UInt8} {k e:Nat} {t:Tk} (h:tokAt l k=some (t,e)):SmallT t:=by
 unfold tokAt fixTok at h
 unfold SmallT
 split at h
 · split at h
   · simp only [Option.some.injEq,Prod.mk.injEq] at h; rw [← h.1]; simp only; omega
   · cases h
 · split at h
   · split at h
     · simp only [Option.some.injEq,Prod.mk.injEq] at h; rw [← h.1]; have:=u8_lt (l.getD k 0); simp only; omega
     · rw [Option.map_eq_some_iff] at h
       obtain ⟨j,_,h⟩:=h
       simp only [Prod.mk.injEq] at h; rw [← h.1]; simp only; omega
   · split at h
     · rw [Option.map_eq_some_iff] at h
       obtain ⟨j,_,h⟩:=h
       simp only [Prod.mk.injEq] at h; rw [← h.1]; simp only; omega
     · rw [Option.map_eq_some_iff] at h
       obtain ⟨j,_,h⟩:=h
       simp only [Prod.mk.injEq] at h; rw [← h.1]; simp only; omega
theorem scanF_small (l:List UInt8):∀ (n k:Nat) (acc:List Tk),(∀ t ∈ acc,SmallT t)→∀ t ∈ (scanF n l k acc).1,SmallT t
 | 0,k,acc,h=>by rw [scanF]; exact h
 | n+1,k,acc,h=>by
  rw [scanF]
  by_cases hk:k < l.length
  · rw [if_pos hk]
    by_cases hs:isSp (l.getD k 0)=true
    · rw [if_pos hs]; exact scanF_small l n (k+1) acc h
    · rw [if_neg hs]
      cases ht:tokAt l k with
      | none=>intro t ht; cases ht
      | some x =>
       refine scanF_small l n x.2 (acc ++ [x.1]) (fun t h1=>?_)
       rcases List.mem_append.1 h1 with h2 | h2
       · exact h t h2
       · obtain rfl:=List.mem_singleton.1 h2
         exact tokAt_small ht
  · rw [if_neg hk]; exact h
theorem small_snoc {o:List Tk} {t:Tk} (h:∀ x ∈ o,SmallT x) (ht:SmallT t):∀ x ∈ o ++ [t],SmallT x:=by
 intro x hx
 rcases List.mem_append.1 hx with h2 | h2
 · exact h x h2
 · obtain rfl:=List.mem_singleton.1 h2; exact ht
theorem small_0 (k:Int):SmallT (k,0,0):=by unfold SmallT; simp only; omega
theorem rd_small (ts:List Tk) (hts:∀ t ∈ ts,SmallT t):∀ (n lv k:Nat) (out:List Tk) (k':Nat) (o:List Tk),rd ts n lv k out=some (.ok k' o)→(∀ t ∈ out,SmallT t)→∀ t ∈ o,SmallT t
 | 0,_,_,_,_,_,h,_=>by rw [rd] at h; cases h
 | n+1,lv,k,out,kk,oo,h,ho=>by
  have ih:=rd_small ts hts n
  have hnum:∀ k,SmallT (knd ts k,num ts k,0):=fun k=>by
   unfold SmallT num
   simp only
   cases hg:ts[k]? with
   | none=>simp
   | some t=>exact hts t (List.mem_of_getElem? hg)
  rw [rd] at h
  by_cases h6:lv=6
  · rw [if_pos h6] at h
    by_cases c1:knd ts k=4
    · rw [if_pos c1] at h
      rcases thenR_some h with ⟨k',h1,h2⟩ | ⟨k',o,h1,h2⟩
      · cases h2
      · injection h2 with h2; injection h2 with h3 h4; subst h4; exact small_snoc (ih _ _ _ _ _ h1 ho) (small_0 19)
    · rw [if_neg c1] at h
      by_cases c2:isOpd (knd ts k)=true
      · rw [if_pos c2] at h
        injection h with h; injection h with h3 h4; subst h4; exact small_snoc ho (hnum k)
      · rw [if_neg c2] at h
        by_cases c3:knd ts k=17
        · rw [if_pos c3] at h
          rcases thenR_some h with ⟨k',h1,h2⟩ | ⟨k',o,h1,h2⟩
          · cases h2
          · by_cases c4:knd ts k'=18
            · rw [if_pos c4] at h2; injection h2 with h2; injection h2 with h3 h4; subst h4; exact ih _ _ _ _ _ h1 ho
            · rw [if_neg c4] at h2; injection h2 with h2; cases h2
        · rw [if_neg c3] at h; injection h with h; cases h
  · rw [if_neg h6] at h
    by_cases h3:lv=3
    · rw [if_pos h3] at h
      by_cases c1:knd ts k=14
      · rw [if_pos c1] at h
        rcases thenR_some h with ⟨k',h1,h2⟩ | ⟨k',o,h1,h2⟩
        · cases h2
        · injection h2 with h2; injection h2 with h3 h4; subst h4; exact small_snoc (ih _ _ _ _ _ h1 ho) (small_0 14)
      · rw [if_neg c1] at h
        rcases thenR_some h with ⟨k',h1,h2⟩ | ⟨k',o,h1,h2⟩
        · cases h2
        · by_cases c4:lvl (knd ts k')=3
          · rw [if_pos c4] at h2
            rcases thenR_some h2 with ⟨k'',h5,h6⟩ | ⟨k'',o',h5,h6⟩
            · cases h6
            · injection h6 with h6; injection h6 with h7 h8; subst h8; exact small_snoc (ih _ _ _ _ _ h5 (ih _ _ _ _ _ h1 ho)) (small_0 _)
          · rw [if_neg c4] at h2; injection h2 with h2; injection h2 with h7 h8; subst h8; exact ih _ _ _ _ _ h1 ho
    · rw [if_neg h3] at h
      by_cases hl:lv < 6
      · rw [if_pos hl] at h
        rcases thenR_some h with ⟨k',h1,h2⟩ | ⟨k',o,h1,h2⟩
        · cases h2
        · exact ih _ _ _ _ _ h2 (ih _ _ _ _ _ h1 ho)
      · rw [if_neg hl] at h
        by_cases hc:lvl (knd ts k)=lv - 10∧k < ts.length
        · rw [if_pos hc] at h
          rcases thenR_some h with ⟨k',h1,h2⟩ | ⟨k',o,h1,h2⟩
          · cases h2
          · exact ih _ _ _ _ _ h2 (small_snoc (ih _ _ _ _ _ h1 ho) (small_0 _))
        · rw [if_neg hc] at h; injection h with h; injection h with h7 h8; subst h8; exact ho
theorem parse_toks {s:List UInt8} {o:List Tk} (h:parseAns s=.toks o):o.length≤100∧(∀ t ∈ o,t.2.1≤9223372036854775807)∧s.length≤200∧(scan s 0 []).2=-1∧readAll (scan s 0 []).1=some (.ok (scan s 0 []).1.length o):=by
 unfold parseAns at h
 split at h
 · rename_i hl
   unfold ansIn at h
   split at h
   · rename_i hm
     obtain ⟨R,hR⟩:=readAll_some (scan s 0 []).1
     rw [hR] at h
     cases R with
     | bad k=>cases h
     | ok k o' =>
      unfold ansOf at h
      simp only at h
      split at h
      · rename_i hk
        split at h
        · rename_i h100
          injection h with h
          subst h
          subst hk
          exact ⟨h100,rd_small _ (fun t ht=>scanF_small s _ 0 [] (fun t ht=>by cases ht) t ht) _ _ _ _ _ _ hR (fun t ht=>by cases ht),hl,hm,hR⟩
        · cases h
      · cases h
   · cases h
 · cases h
def OPost (a:Ans) (env:List Int) (w:World) (e:Ending) (w':World):Prop :=
 match a with
  | .toks o=>VPost (ans ⟨false,env,0⟩ o) w e w'
  | .form k=>Below w.heap.size w w'∧∃ g,e=.returned (.tuple #[.agg #[.int .i64 0,.int .i64 0],.iface 106 (.pointer (some ⟨g,0,none⟩))])∧w.heap.size≤g∧Blk w' g 108 #[.int .i64 k,.int .i64 2]
  | .large=>Below w.heap.size w w'∧e=.returned (.tuple #[.agg #[.int .i64 0,.int .i64 0],.iface 82 (.int .i64 3)])
def errOf:Vl→Value
 | .ok _ _=>.nilIface
 | .bad c=>.iface 82 (.int .i64 c)
theorem VPost.val {a:Vl} {w w':World} {e:Ending} (h:VPost a w e w'):Below w.heap.size w w'∧∃ er,e=.returned (.tuple #[.agg #[.int .i64 a.kind,.int .i64 a.num],er])∧er=errOf a:=by
 obtain ⟨hb,h⟩:=h
 cases a with
 | ok k n=>exact ⟨hb,_,h,rfl⟩
 | bad c=>exact ⟨hb,_,h,rfl⟩
theorem VPost.of_val {a:Vl} {w w':World} {e:Ending} {er:Value} (hb:Below w.heap.size w w') (her:er=errOf a) (he:e=.returned (.tuple #[.agg #[.int .i64 a.kind,.int .i64 a.num],er])):VPost a w e w':=by
 cases a with
 | ok k n=>subst her; exact ⟨hb,he⟩
 | bad c=>subst her; exact ⟨hb,he⟩
set_option maxHeartbeats 2000000 in
set_option maxRecDepth 100000 in
theorem of_any (s:ByteArray) (ve:Value) (env:List Int) (w:World) (hL:Laid w) (hs:s.size≤1000000) (hE:NumsAt w ve env) (hel:env.length≤1000) (hef:∀ x ∈ env,F64 x):Calls Tryz.prog 205 #[.string s,ve] w (OPost (parseAns s.data.toList) env w):=by
 have HBA:=Lib.hid ((Below.refl w.heap.size w).alloc (Nat.le_refl _) (.cells #[.int .i64 0,.int .i64 0] 204))
 have HP:=Lib.hid (parse_any s _ (hL.after HBA.out) hs)
 have HE:=Lib.hid hE
 have HEF:=Lib.hid hef
 have HPT:=Lib.hid (fun o=>parse_toks (s:=s.data.toList) (o:=o))
 have hnn:=neq_nil_nil
 have hnc:=fun p W=>neq_code_any p W
 have hns:=fun p W=>neq_spot_any p W
 have HR:=Lib.hid (Blk.new w 204 #[.int .i64 0,.int .i64 0])
 generalize parseAns s.data.toList=a at *
 clear hL hE hef
 go_enter Tryz.func205,Tryz.ntmps205
 go_wp2_with fail
 refine HP.out.mono ?_
 rintro e w1 ⟨hb1,hA⟩
 have HB1:=Lib.hid (HBA.out.trans (hb1.mono HBA.out.size))
 have HR1:=Lib.hid (HR.out.below hb1 HR.out.lt)
 have hsz:(w.alloc (.cells #[.int .i64 0,.int .i64 0] 204)).heap.size=w.heap.size+1:=by simp
 clear hb1
 cases a with
 | toks o =>
  obtain ⟨v,rfl,hown⟩:=hA
  obtain ⟨ho100,hsm,_⟩:=HPT.out o rfl
  have HV:=Lib.hid (eval_any v ve o env w1 (ToksAt.of_own hown) (by omega) (HE.out.below HB1.out) hel HEF.out hsm)
  clear hown hsm ho100
  go_wp2_with fail
  refine HV.out.mono ?_
  intro e w2 hp
  obtain ⟨hb2,er,rfl,her⟩:=hp.val
  have HB2:=Lib.hid (HB1.out.trans (hb2.mono HB1.out.size))
  have HR2:=Lib.hid (HR1.out.below hb2 HR1.out.lt)
  have HER:=Lib.hid her
  obtain ⟨⟨r0,r1⟩,f0,f1⟩:=HR2.out.facts2
  clear hb2 hp her
  go_wp2_with fail
  refine bodyPost_ret (results_pair Tryz.results205 _ _ w.heap.size _ _ (by rfl) (HR2.out.set2 _ _)) rfl (VPost.of_val ((HB2.out.setCell (by simp) _).setCell (by simp) _) HER.out rfl)
 | form k =>
  obtain ⟨g,rfl,hg,hB⟩:=hA
  have HG:=Lib.hid hg
  have HBl:=Lib.hid hB
  obtain ⟨⟨r0,r1⟩,f0,f1⟩:=HR1.out.facts2
  clear hg hB
  go_wp2_with fail
  have hne:w.heap.size < g:=by have:=HG.out; omega
  refine bodyPost_ret (results_pair Tryz.results205 _ _ w.heap.size _ _ (by rfl) (HR1.out.set2 _ _)) rfl ⟨(HB1.out.setCell (by simp) _).setCell (by simp) _,g,rfl,by omega,?_⟩
  exact (Below.heap_setCell _ ⟨w.heap.size,1,none⟩ _ g (by simp; omega)).trans ((Below.heap_setCell _ ⟨w.heap.size,0,none⟩ _ g (by simp; omega)).trans HBl.out)
 | large =>
  have hA':e=.returned (.tuple #[.slice none 0 0,.iface 82 (.int .i64 3)]):=hA
  subst hA'
  obtain ⟨⟨r0,r1⟩,f0,f1⟩:=HR1.out.facts2
  clear hA
  go_wp2_with fail
  refine bodyPost_ret (results_pair Tryz.results205 _ _ w.heap.size _ _ (by rfl) (HR1.out.set2 _ _)) rfl ⟨(HB1.out.setCell (by simp) _).setCell (by simp) _,rfl⟩

def hasTB (s:ByteArray) (vars want:Int):Bool :=
 match parseAns s.data.toList with
 | .toks o=>(match ans ⟨true,[],vars⟩ o with
  | .ok k _=>k == want
  | .bad _=>false)
 | _=>false
theorem eql_nil_nil (w:World):(binOp .eql 30 .nilIface .nilIface).run Tryz.prog w=.ok (.bool true) w:=by kernel_rfl
theorem eql_code_nil' (p:Value) (w:World):(binOp .eql 30 (.iface 82 p) .nilIface).run Tryz.prog w=.ok (.bool false) w:=by kernel_rfl
set_option maxHeartbeats 1000000 in
theorem hasType_any (s:ByteArray) (vars want:Int) (w:World) (hL:Laid w) (hs:s.size≤1000000) :
 Calls Tryz.prog 103 #[.string s,.int .i64 vars,.int .i64 want] w fun e w'=>e=.returned (.bool (hasTB s vars want))∧Below w.heap.size w w':=by
 have HP:=Lib.hid (parse_any s w hL hs)
 have HPT:=Lib.hid (fun o=>parse_toks (s:=s.data.toList) (o:=o))
 have hR:hasTB s vars want=hasTB s vars want:=rfl
 conv at hR=>rhs; unfold hasTB
 generalize hasTB s vars want=R at *
 generalize parseAns s.data.toList=a at *
 have hnn:=neq_nil_nil
 have hnc:=fun p W=>neq_code_any p W
 have hns:=fun p W=>neq_spot_any p W
 have hen:=eql_nil_nil
 have hec:=fun p W=>eql_code_nil' p W
 cases a with
 | toks o =>
  have HR:=Lib.hid hR
  clear hR hL
  go_enter Tryz.func103,Tryz.ntmps103
  go_wp2_with fail
  refine HP.out.mono ?_
  rintro e w1 ⟨hb1,v,rfl,hown⟩
  obtain ⟨ho100,hsm,_⟩:=HPT.out o rfl
  have HT:=Lib.hid (type_any v o vars w1 (ToksAt.of_own hown) (by omega) hsm)
  have HB1:=Lib.hid hb1
  clear hb1 hown hsm ho100
  go_wp2_with fail
  refine HT.out.mono ?_
  rintro e w2 ⟨hb2,he⟩
  have HB2:=Lib.hid (HB1.out.trans (hb2.mono HB1.out.size))
  generalize ans ⟨true,[],vars⟩ o=b at *
  clear hb2
  cases b with
  | ok k n =>
   have he':e=.returned (.tuple #[.int .i64 k,.nilIface]):=he
   subst he'
   clear he
   go_wp2_with fail
   go_ret
   exact ⟨ret_bool (by rw [HR.out]),HB2.out⟩
  | bad c =>
   have he':e=.returned (.tuple #[.int .i64 0,.iface 82 (.int .i64 c)]):=he
   subst he'
   clear he
   go_wp2_with fail
   go_ret
   exact ⟨ret_bool (by rw [HR.out]),HB2.out⟩
 | form k =>
  have HR:=Lib.hid hR
  clear hR hL
  go_enter Tryz.func103,Tryz.ntmps103
  go_wp2_with fail
  refine HP.out.mono ?_
  rintro e w1 ⟨hb1,g,rfl,hg,hB⟩
  have HB1:=Lib.hid hb1
  clear hb1 hg hB
  go_wp2_with fail
  go_ret
  exact ⟨ret_bool (by rw [HR.out]),HB1.out⟩
 | large =>
  have HR:=Lib.hid hR
  clear hR hL
  go_enter Tryz.func103,Tryz.ntmps103
  go_wp2_with fail
  refine HP.out.mono ?_
  rintro e w1 ⟨hb1,he⟩
  have he':e=.returned (.tuple #[.slice none 0 0,.iface 82 (.int .i64 3)]):=he
  subst he'
  have HB1:=Lib.hid hb1
  clear hb1 he
  go_wp2_with fail
  go_ret
  exact ⟨ret_bool (by rw [HR.out]),HB1.out⟩

abbrev acBox (a:Ac):Obj:=.cells #[.int .i64 a.kind,.int .i64 a.n,.int .i64 a.m,.string a.expr] 104
abbrev acVal (a:Ac):Value:=.agg #[.int .i64 a.kind,.int .i64 a.n,.int .i64 a.m,.string a.expr]
theorem size_toList (s:ByteArray):s.toList.isEmpty=decide (s.size=0):=by
 rw [Lib.toList_data,Lib.size_eq]
 cases s.data.toList <;> simp
set_option maxHeartbeats 2000000 in
theorem act_any (a:Ac) (vars:Int) (w:World) (hL:Laid w) (hs:a.expr.size≤1000000) (hv:-1000≤vars) (hv2:vars≤1000) :
 Calls Tryz.prog 144 #[acVal a,.int .i64 vars] w fun e w'=>e=.returned (.bool (actB hasTB vars a))∧Below w.heap.size w w':=by
 have HB:=Lib.hid (below_box w (acBox a))
 have HT:=Lib.hid (hasType_any a.expr vars 1 _ (hL.after HB.out) hs)
 have hR:actB hasTB vars a=actB hasTB vars a:=rfl
 conv at hR=>rhs; unfold actB
 generalize actB hasTB vars a=R at *
 generalize hasTB a.expr vars 1=ty at *
 obtain ⟨k,n,m,ex⟩:=a
 simp only at hR HT HB ⊢
 clear hL
 have hk:k=1 ∨ k=2 ∨ k=3 ∨ k=4 ∨ k=5 ∨ (k ≠ 1∧k ≠ 2∧k ≠ 3∧k ≠ 4∧k ≠ 5):=by omega
 rcases hk with rfl | rfl | rfl | rfl | rfl | ⟨k1,k2,k3,k4,k5⟩
 · rw [if_pos rfl] at hR
   have HR:=Lib.hid hR
   clear hR
   cases h1:fromB n 0 (vars - 1) with
   | false =>
    have H1:=Lib.hid h1
    clear h1
    go_enter Tryz.func144,Tryz.ntmps144
    go_wp2_with fail
    refine (isFrom_any _ _ _ _).mono ?_
    rintro e w' ⟨rfl,rfl⟩
    rw [H1.out]
    go_wp2_with fail
    go_ret
    exact ⟨ret_bool (by rw [HR.out]; simp [H1.out]),HB.out⟩
   | true =>
    have H1:=Lib.hid h1
    clear h1
    by_cases h2:m=0
    · have b2:(m == 0)=true:=by simpa using h2
      have H2:=Lib.hid h2
      clear h2
      go_enter Tryz.func144,Tryz.ntmps144
      go_wp2_with fail
      refine (isFrom_any _ _ _ _).mono ?_
      rintro e w' ⟨rfl,rfl⟩
      rw [H1.out]
      go_wp2_with fail
      refine HT.out.mono ?_
      rintro e w1 ⟨rfl,hb1⟩
      have HB1:=Lib.hid (below_boxed hb1)
      clear hb1
      go_wp2_with fail
      go_ret
      exact ⟨ret_bool (by rw [HR.out]; simp [H1.out,H2.out]),HB1.out⟩
    · have b2:(m == 0)=false:=by simpa using h2
      have H2:=Lib.hid h2
      clear h2
      go_enter Tryz.func144,Tryz.ntmps144
      go_wp2_with fail
      refine (isFrom_any _ _ _ _).mono ?_
      rintro e w' ⟨rfl,rfl⟩
      rw [H1.out]
      go_wp2_with fail
      go_ret
      exact ⟨ret_bool (by rw [HR.out]; simp [H1.out,H2.out]),HB.out⟩
 · rw [if_neg (by decide),if_pos (.inl rfl)] at hR
   have HR:=Lib.hid hR
   clear hR
   cases h1:fromB n 1 1000 with
   | false =>
    have H1:=Lib.hid h1
    clear h1
    go_enter Tryz.func144,Tryz.ntmps144
    go_wp2_with fail
    refine (isFrom_any _ _ _ _).mono ?_
    rintro e w' ⟨rfl,rfl⟩
    rw [H1.out]
    go_wp2_with fail
    go_ret
    exact ⟨ret_bool (by rw [HR.out]; simp [H1.out]),HB.out⟩
   | true =>
    have H1:=Lib.hid h1
    clear h1
    by_cases h2:m=0
    · have b2:(m == 0)=true:=by simpa using h2
      have H2:=Lib.hid h2
      clear h2
      go_enter Tryz.func144,Tryz.ntmps144
      go_wp2_with fail
      refine (isFrom_any _ _ _ _).mono ?_
      rintro e w' ⟨rfl,rfl⟩
      rw [H1.out]
      go_wp2_with fail
      go_ret
      exact ⟨ret_bool (by rw [HR.out,H1.out,← size_toList]; simp [H2.out]),HB.out⟩
    · have b2:(m == 0)=false:=by simpa using h2
      have H2:=Lib.hid h2
      clear h2
      go_enter Tryz.func144,Tryz.ntmps144
      go_wp2_with fail
      refine (isFrom_any _ _ _ _).mono ?_
      rintro e w' ⟨rfl,rfl⟩
      rw [H1.out]
      go_wp2_with fail
      go_ret
      exact ⟨ret_bool (by rw [HR.out]; simp [H1.out,H2.out]),HB.out⟩
 · rw [if_neg (by decide),if_neg (by decide),if_pos rfl] at hR
   have HR:=Lib.hid hR
   clear hR
   cases h1:fromB n 1 1000 with
   | false =>
    have H1:=Lib.hid h1
    clear h1
    go_enter Tryz.func144,Tryz.ntmps144
    go_wp2_with fail
    refine (isFrom_any _ _ _ _).mono ?_
    rintro e w' ⟨rfl,rfl⟩
    rw [H1.out]
    go_wp2_with fail
    go_ret
    exact ⟨ret_bool (by rw [HR.out]; simp [H1.out]),HB.out⟩
   | true =>
    have H1:=Lib.hid h1
    clear h1
    cases h2:fromB m 0 1000 with
    | false =>
     have H2:=Lib.hid h2
     clear h2
     go_enter Tryz.func144,Tryz.ntmps144
     go_wp2_with fail
     refine (isFrom_any _ _ _ _).mono ?_
     rintro e w' ⟨rfl,rfl⟩
     rw [H1.out]
     go_wp2_with fail
     refine (isFrom_any _ _ _ _).mono ?_
     rintro e w' ⟨rfl,rfl⟩
     rw [H2.out]
     go_wp2_with fail
     go_ret
     exact ⟨ret_bool (by rw [HR.out]; simp [H1.out,H2.out]),HB.out⟩
    | true =>
     have H2:=Lib.hid h2
     clear h2
     go_enter Tryz.func144,Tryz.ntmps144
     go_wp2_with fail
     refine (isFrom_any _ _ _ _).mono ?_
     rintro e w' ⟨rfl,rfl⟩
     rw [H1.out]
     go_wp2_with fail
     refine (isFrom_any _ _ _ _).mono ?_
     rintro e w' ⟨rfl,rfl⟩
     rw [H2.out]
     go_wp2_with fail
     refine HT.out.mono ?_
     rintro e w1 ⟨rfl,hb1⟩
     have HB1:=Lib.hid (below_boxed hb1)
     clear hb1
     go_wp2_with fail
     go_ret
     exact ⟨ret_bool (by rw [HR.out]; simp [H1.out,H2.out]),HB1.out⟩
 · rw [if_neg (by decide),if_pos (.inr rfl)] at hR
   have HR:=Lib.hid hR
   clear hR
   cases h1:fromB n 1 1000 with
   | false =>
    have H1:=Lib.hid h1
    clear h1
    go_enter Tryz.func144,Tryz.ntmps144
    go_wp2_with fail
    refine (isFrom_any _ _ _ _).mono ?_
    rintro e w' ⟨rfl,rfl⟩
    rw [H1.out]
    go_wp2_with fail
    go_ret
    exact ⟨ret_bool (by rw [HR.out]; simp [H1.out]),HB.out⟩
   | true =>
    have H1:=Lib.hid h1
    clear h1
    by_cases h2:m=0
    · have b2:(m == 0)=true:=by simpa using h2
      have H2:=Lib.hid h2
      clear h2
      go_enter Tryz.func144,Tryz.ntmps144
      go_wp2_with fail
      refine (isFrom_any _ _ _ _).mono ?_
      rintro e w' ⟨rfl,rfl⟩
      rw [H1.out]
      go_wp2_with fail
      go_ret
      exact ⟨ret_bool (by rw [HR.out,H1.out,← size_toList]; simp [H2.out]),HB.out⟩
    · have b2:(m == 0)=false:=by simpa using h2
      have H2:=Lib.hid h2
      clear h2
      go_enter Tryz.func144,Tryz.ntmps144
      go_wp2_with fail
      refine (isFrom_any _ _ _ _).mono ?_
      rintro e w' ⟨rfl,rfl⟩
      rw [H1.out]
      go_wp2_with fail
      go_ret
      exact ⟨ret_bool (by rw [HR.out]; simp [H1.out,H2.out]),HB.out⟩
 · rw [if_neg (by decide),if_neg (by decide),if_neg (by decide),if_pos rfl] at hR
   have HR:=Lib.hid hR
   clear hR
   by_cases h1:n=0
   · have b1:(n == 0)=true:=by simpa using h1
     have H1:=Lib.hid h1
     clear h1
     by_cases h2:m=0
     · have b2:(m == 0)=true:=by simpa using h2
       have H2:=Lib.hid h2
       clear h2
       go_enter Tryz.func144,Tryz.ntmps144
       go_wp2_with fail
       refine HT.out.mono ?_
       rintro e w1 ⟨rfl,hb1⟩
       have HB1:=Lib.hid (below_boxed hb1)
       clear hb1
       go_wp2_with fail
       go_ret
       exact ⟨ret_bool (by rw [HR.out]; simp [H1.out,H2.out]),HB1.out⟩
     · have b2:(m == 0)=false:=by simpa using h2
       have H2:=Lib.hid h2
       clear h2
       go_enter Tryz.func144,Tryz.ntmps144
       go_wp2_with fail
       go_ret
       exact ⟨ret_bool (by rw [HR.out]; simp [H1.out,H2.out]),HB.out⟩
   · have b1:(n == 0)=false:=by simpa using h1
     have H1:=Lib.hid h1
     clear h1
     go_enter Tryz.func144,Tryz.ntmps144
     go_wp2_with fail
     go_ret
     exact ⟨ret_bool (by rw [HR.out]; simp [H1.out]),HB.out⟩
 · rw [if_neg k1,if_neg (by simp [k2,k4]),if_neg k3,if_neg k5] at hR
   have HR:=Lib.hid hR
   have b1:(k == 1)=false:=by simpa using k1
   have b2:(k == 2)=false:=by simpa using k2
   have b3:(k == 3)=false:=by simpa using k3
   have b4:(k == 4)=false:=by simpa using k4
   have b5:(k == 5)=false:=by simpa using k5
   clear hR k1 k2 k3 k4 k5
   go_enter Tryz.func144,Tryz.ntmps144
   go_wp2_with fail
   go_ret
   exact ⟨ret_bool HR.out.symm,HB.out⟩

def ShortActs (l:List Ac):Prop:=∀ (i:Nat),i < l.length→(l.getD i noAc).expr.size≤1000000
set_option maxHeartbeats 2000000 in
theorem acts_any (v:Value) (l:List Ac) (vars:Int) (w:World) (hL:Laid w) (hA:ActsAt w v l) (hl:Short l.length) (hs:ShortActs l) (hv:-1000≤vars) (hv2:vars≤1000) :
 Calls Tryz.prog 104 #[v,.int .i64 vars] w fun e w'=>e=.returned (.bool (actsB hasTB vars l))∧Below w.heap.size w w':=by
 unfold Short at hl
 obtain ⟨A,cap,rfl,hcap,hel⟩:=hA
 by_cases h5:5 < l.length
 · have hd:decide ((5:Int) < (l.length:Int))=true:=by simp; omega
   have hd2:decide (5 < l.length)=true:=by simpa using h5
   have HR:Hid (actsB hasTB vars l=false):=Lib.hid (by unfold actsB; rw [show decide (l.length≤5)=false by simp; omega]; rfl)
   clear hel
   go_enter Tryz.func104,Tryz.ntmps104
   go_wp2_with fail
   go_ret
   exact ⟨ret_bool HR.out.symm,Below.refl _ _⟩
 · have hd:decide ((5:Int) < (l.length:Int))=false:=by simp; omega
   have hd2:decide (5 < l.length)=false:=by simpa using h5
   have hl5:l.length≤5:=by omega
   have HE:=Lib.hid hel
   have HACT:=Lib.hid (fun (W:World) (a:Ac) (hb:Below w.heap.size w W) (h:a.expr.size≤1000000)=>act_any a vars W (hL.after hb) h hv hv2)
   have HS:=Lib.hid hs
   have HRT:Hid ((∀ i,i < l.length→actB hasTB vars (l.getD i noAc)=true)→actsB hasTB vars l=true):=Lib.hid (fun h=>by unfold actsB; rw [show decide (l.length≤5)=true by simp; omega,allU_true h]; rfl)
   have HRF:Hid (∀ i,i < l.length→actB hasTB vars (l.getD i noAc)=false→actsB hasTB vars l=false):=Lib.hid (fun i hi h=>by unfold actsB; rw [allU_false i hi h]; simp)
   clear hel h5 hL hs
   go_enter Tryz.func104,Tryz.ntmps104
   go_wp2_with fail
   go_loopw [12] (fun i wr=>∃ k:Nat,k≤l.length∧i=.int .i64 (k:Int)∧Hid (∀ j,j < k→actB hasTB vars (l.getD j noAc)=true)∧Below w.heap.size w wr) (fun i _=>l.length - (intOf i).toNat)
   case atStart=>exact ⟨0,Nat.zero_le _,rfl,Lib.hid (fun j hj=>by omega),Below.refl _ _⟩
   case round =>
    obtain ⟨k,hk,rfl,HO,hb⟩:=hrel
    obtain ⟨wo,rfl⟩:∃ wo:World,wo=wr:=⟨_,rfl⟩
    by_cases hlt:k < l.length
    · have hge:l[k]?=some (l.getD k noAc):=by simp [List.getD,List.getElem?_eq_getElem hlt]
      obtain ⟨b,o,rfl,hbw,hc⟩:=HE.out k _ hge
      obtain ⟨c0,c1,c2,c3⟩:=AcAt.keeps w wo b _ _ hb hbw hc
      have hsz:=HS.out k hlt
      have hRT:=HRF.out k hlt
      have hRO:actB hasTB vars (l.getD k noAc)=true→∀ j,j < k+1→actB hasTB vars (l.getD j noAc)=true:=fun h j hj=>by
       by_cases he:j=k
       · rw [he]; exact h
       · exact HO.out j (by omega)
      generalize l.getD k noAc=a at *
      have HB1:=Lib.hid (below_box wo (acBox a))
      have HX:=Lib.hid (hb.trans (HB1.out.mono hb.size))
      have HCALL:=Lib.hid (HACT.out _ a HX.out hsz)
      have HRK:=Lib.hid hRT
      have HRO:=Lib.hid hRO
      clear hge hc hsz hRT hRO
      cases hf:actB hasTB vars a with
      | true =>
       have HF:=Lib.hid hf
       clear hf
       go_wp2_with fail
       refine HCALL.out.mono ?_
       rintro e w1 ⟨rfl,hb1⟩
       have HB2:=Lib.hid (HX.out.trans (hb1.mono HX.out.size))
       rw [HF.out]
       clear hb1
       go_wp2
       go_roundw
       case rel=>exact ⟨k+1,by omega,by go_num,Lib.hid (HRO.out HF.out),HB2.out⟩
       case measure=>simp [intOf]; omega
      | false =>
       have HF:=Lib.hid hf
       clear hf
       go_wp2_with fail
       refine HCALL.out.mono ?_
       rintro e w1 ⟨rfl,hb1⟩
       have HB2:=Lib.hid (HX.out.trans (hb1.mono HX.out.size))
       rw [HF.out]
       clear hb1
       go_wp2_with fail
       go_ret
       exact ⟨ret_bool (HRK.out HF.out).symm,HB2.out⟩
    · obtain rfl:k=l.length:=by omega
      go_wp2_with fail
      go_ret
      exact ⟨ret_bool (HRT.out HO.out).symm,hb⟩
set_option maxHeartbeats 2000000 in
theorem stActs_any (s:Nat) (vs vt:Value) (C:Ch) (w:World) (hL:Laid w) (hC:ChHas w vs vt C) (hl:Short C.sts.length) (hs:s < C.sts.length) (hv:-1000≤C.vars) (hv2:C.vars≤1000)
 (he:Short (stAt C.sts s).ent.length) (hes:ShortActs (stAt C.sts s).ent) (hx:Short (stAt C.sts s).exi.length) (hxs:ShortActs (stAt C.sts s).exi) :
 Calls Tryz.prog 99 #[.agg #[.int .i64 C.vars,vs,vt],.int .i64 (s:Int)] w fun e w'=>e=.returned (.bool (stActsB hasTB C.sts C.vars s))∧Below w.heap.size w w':=by
 unfold Short at hl
 obtain ⟨b,o,cap,vi,ve,vx,rfl,hcap,hlt,hst,hhas⟩:=hC.st hs
 obtain ⟨c0,c1,c2,c3,c4⟩:=hst
 obtain ⟨hini,hent,hexi⟩:=hhas
 obtain ⟨iA,icap,eA,ecap,xA,xcap,rfl,rfl,rfl⟩:=StHas.slices ⟨hini,hent,hexi⟩
 have hR:stActsB hasTB C.sts C.vars (s:Int)=stActsB hasTB C.sts C.vars (s:Int):=rfl
 conv at hR=>rhs; unfold stActsB
 generalize stActsB hasTB C.sts C.vars (s:Int)=R at *
 generalize (stAt C.sts (s:Int)).kind=K at *
 generalize (stAt C.sts (s:Int)).par=P at *
 generalize (stAt C.sts (s:Int)).ini.length=il at *
 generalize (stAt C.sts (s:Int)).ent=le at *
 generalize (stAt C.sts (s:Int)).exi=lx at *
 have HB2:=Lib.hid (below_two w (chBox C.vars (.slice (some ⟨b,o,none⟩) C.sts.length cap) vt) (stBox K P (.slice iA il icap) (.slice eA le.length ecap) (.slice xA lx.length xcap)))
 have HE:=Lib.hid (fun (W:World) (hb:Below w.heap.size w W)=>acts_any _ le C.vars W (hL.after hb) (hent.below hb) he hes hv hv2)
 have HX:=Lib.hid (fun (W:World) (hb:Below w.heap.size w W)=>acts_any _ lx C.vars W (hL.after hb) (hexi.below hb) hx hxs hv hv2)
 unfold Short at he hx
 clear hC hL hini hent hexi hes hxs
 cases hh:histB K with
 | true =>
  rw [if_pos hh] at hR
  have HR:=Lib.hid hR
  have HH:=Lib.hid hh
  clear hR hh
  by_cases h0:le.length=0
  · have h02:((le.length:Int) == 0)=true:=by simp [h0]
    have H0:=Lib.hid h0
    clear h0
    go_enter Tryz.func99,Tryz.ntmps99
    go_wp2_with (go_at_call 92; refine (isHist_any _ _).mono ?_; rintro e w' ⟨rfl,rfl⟩; rw [HH.out])
    go_ret
    exact ⟨ret_bool (by rw [HR.out,show decide (le.length=0)=true by simp [H0.out],Bool.true_and]; exact len_dec _ 0),HB2.out⟩
  · have h02:((le.length:Int) == 0)=false:=by simp; intro h; exact h0 (by simp [h])
    have H0:=Lib.hid h0
    clear h0
    go_enter Tryz.func99,Tryz.ntmps99
    go_wp2_with (go_at_call 92; refine (isHist_any _ _).mono ?_; rintro e w' ⟨rfl,rfl⟩; rw [HH.out])
    go_ret
    exact ⟨ret_bool (by rw [HR.out,show decide (le.length=0)=false by simpa using H0.out,Bool.false_and]),HB2.out⟩
 | false =>
  rw [if_neg (by rw [hh]; simp)] at hR
  have HR:=Lib.hid hR
  have HH:=Lib.hid hh
  clear hR hh
  cases h1:actsB hasTB C.vars le with
  | false =>
   have H1:=Lib.hid h1
   clear h1
   go_enter Tryz.func99,Tryz.ntmps99
   go_wp2_with fail
   refine (isHist_any _ _).mono ?_
   rintro e w' ⟨rfl,rfl⟩
   rw [HH.out]
   go_wp2_with fail
   refine (HE.out _ HB2.out).mono ?_
   rintro e w1 ⟨rfl,hb1⟩
   have HB3:=Lib.hid (below_twod hb1)
   rw [H1.out]
   clear hb1
   go_wp2_with fail
   go_ret
   exact ⟨ret_bool (by rw [HR.out,H1.out,Bool.false_and]),HB3.out⟩
  | true =>
   have H1:=Lib.hid h1
   clear h1
   go_enter Tryz.func99,Tryz.ntmps99
   go_wp2_with fail
   refine (isHist_any _ _).mono ?_
   rintro e w' ⟨rfl,rfl⟩
   rw [HH.out]
   go_wp2_with fail
   refine (HE.out _ HB2.out).mono ?_
   rintro e w1 ⟨rfl,hb1⟩
   obtain ⟨⟨x0,x1,x2⟩,y0,y1,y2,y3,y4⟩:=two_later hb1
   have HB3:=Lib.hid (below_twod hb1)
   rw [H1.out]
   clear hb1
   go_wp2_with fail
   refine (HX.out _ HB3.out).mono ?_
   rintro e w2 ⟨rfl,hb2⟩
   have HB4:=Lib.hid (HB3.out.trans (hb2.mono HB3.out.size))
   clear hb2
   go_wp2_with fail
   go_ret
   exact ⟨ret_bool (by rw [HR.out,H1.out,Bool.true_and]),HB4.out⟩
end Go.Proofs.YtmhkpjcdkjnlnaaGreatDoor
