/- The contract of parse.Parse: the postfix of any text in memory of its own; or where it can't go on; or that it is too large. -/
import Derived.Test.YtmhkpjcdkjnlnaaGreatDoorFWPwhole
import Derived.Test.YtmhkpjcdkjnlnaaGreatDoorFWZtoks
namespace Go.Proofs.YtmhkpjcdkjnlnaaGreatDoor
open Go.ChangeShapes Go.WideShapes Go.ChangeAt Go.RowKit
set_option linter.unusedVariables false

inductive Ans where
 | toks (o:List Tk)
 | form (k:Int)
 | large
def ansOf (ts:List Tk) (len:Nat):Res→Ans
 | .bad k=>.form (byteAt ts len k)
 | .ok k o=>if k=ts.length then (if o.length≤100 then .toks o else .large) else .form (byteAt ts len k)
def ansIn (R:List Tk × Int) (len:Nat):Ans :=
 if R.2=-1 then (match readAll R.1 with | some r=>ansOf R.1 len r | none=>.large) else .form R.2
def parseAns (s:List UInt8):Ans:=if s.length≤200 then ansIn (scan s 0 []) s.length else .large
def PPost (a:Ans) (w:World) (e:Ending) (w':World):Prop :=
 Below w.heap.size w w'∧match a with
  | .toks o=>∃ v,e=.returned (.tuple #[v,.nilIface])∧w'.ownsRow w.heap.size 192 3 v o.length (tksCells o)
  | .form k=>∃ g,e=.returned (.tuple #[.slice none 0 0,.iface 106 (.pointer (some ⟨g,0,none⟩))])∧w.heap.size≤g∧Blk w' g 108 #[.int .i64 k,.int .i64 2]
  | .large=>e=.returned (.tuple #[.slice none 0 0,.iface 82 (.int .i64 3)])
theorem own_slice {w:World} {B:Nat} {e:TypeId} {s n:Nat} {v:Value} {xs:List Value} (h:w.ownsRow B e s v n xs):∃ A cap,v=.slice A n cap:=by
 rcases h.2 with ⟨h,h0⟩ | ⟨a,b,_,h,_⟩
 · exact ⟨none,0,by rw [h,h0]⟩
 · exact ⟨_,_,h⟩
theorem own_base {w:World} {B B':Nat} {e:TypeId} {s n:Nat} {v:Value} {xs:List Value} (h:w.ownsRow B e s v n xs) (hB:B'≤B):w.ownsRow B' e s v n xs:=by
 refine ⟨h.1,?_⟩
 rcases h.2 with h2 | ⟨a,b,c,h1,h2,h3⟩
 · exact .inl h2
 · exact .inr ⟨a,b,c,h1,Nat.le_trans hB h2,h3⟩
theorem ansOf_toks (ts:List Tk) (len k:Nat) (o:List Tk) (h:k=ts.length) (h1:o.length≤100):ansOf ts len (.ok k o)=.toks o:=by unfold ansOf; simp only; rw [if_pos h,if_pos h1]
theorem ansOf_large (ts:List Tk) (len k:Nat) (o:List Tk) (h:k=ts.length) (h1:100 < o.length):ansOf ts len (.ok k o)=.large:=by unfold ansOf; simp only; rw [if_pos h,if_neg (by omega)]
theorem ansOf_form (ts:List Tk) (len k:Nat) (o:List Tk) (h:k ≠ ts.length):ansOf ts len (.ok k o)=.form (byteAt ts len k):=by unfold ansOf; simp only; rw [if_neg h]
theorem scanF_cases (l:List UInt8):∀ (n k:Nat) (acc:List Tk),(scanF n l k acc).2=-1 ∨ ∃ k':Nat,scanF n l k acc=([],(k':Int))
 | 0,k,acc=>.inl rfl
 | n+1,k,acc=>by
  rw [scanF]
  by_cases hk:k < l.length
  · rw [if_pos hk]
    by_cases hs:isSp (l.getD k 0)=true
    · rw [if_pos hs]; exact scanF_cases l n (k+1) acc
    · rw [if_neg hs]
      cases ht:tokAt l k with
      | none=>exact .inr ⟨k,rfl⟩
      | some x=>exact scanF_cases l n x.2 (acc ++ [x.1])
  · rw [if_neg hk]; exact .inl rfl
theorem scan_cases (l:List UInt8):(scan l 0 []).2=-1 ∨ ∃ k':Nat,scan l 0 []=([],(k':Int)):=scanF_cases l _ 0 []
theorem neq_code_any (p:Value) (w:World):(binOp .neq 30 (.iface 82 p) .nilIface).run Tryz.prog w=.ok (.bool true) w:=by kernel_rfl
theorem neq_spot_any (p:Value) (w:World):(binOp .neq 30 (.iface 106 p) .nilIface).run Tryz.prog w=.ok (.bool true) w:=by kernel_rfl
theorem whole_any (ts:List Tk) (g:Nat) (vin v:Value) (R:Res) (w:World) (hl:ts.length≤1000) (hR:readAll ts=some R) (hT:ToksU g w vin ts) (hS:RSt g vin w 0 v []):Calls Tryz.prog 135 #[.pointer (some ⟨g,0,none⟩)] w (WPost ts g vin R v w):=by
 have h:=(all_read ts g vin hl _ _ (Nat.le_refl _)).r1 0 [] R v (w.drewN 1) hR (Nat.zero_le _) (by simp) (hT.drewN 1) (hS.drewN 1)
 have hf:=rd_fits ts _ 1 0 [] R hR (Nat.zero_le _)
 have h':∀ w0,w0=w.drew→Calls Tryz.prog 175 #[.pointer (some ⟨g,0,none⟩)] w0 (RPost g vin R v w):=fun w0 h0=>by
  subst h0
  exact h.mono fun e w' hp=>RPost.after ((Kept.refl g v w).drewN 1) hp
 obtain ⟨A,cap,rfl,_⟩:=hT
 cases R with
 | bad k=>exact whole_bad ts g k _ v w h'
 | ok k o=>unfold Fits at hf; exact whole_ok ts g k cap A v o w (by omega) hl h'
set_option maxHeartbeats 1000000 in
theorem parse_large (s:ByteArray) (w:World) (hs:200 < s.size) (hs2:s.size≤1000000):Calls Tryz.prog 85 #[.string s] w (PPost .large w):=by
 have hn:=fun W=>neq_code_any (.int .i64 3) W
 go_enter Tryz.func85,Tryz.ntmps85
 go_wp2_with fail
 refine (tokens_large s w hs hs2).mono ?_
 rintro e w' ⟨rfl,rfl⟩
 go_wp2_with fail
 go_ret2
 exact ⟨Below.refl _ _,rfl⟩
set_option maxHeartbeats 1000000 in
theorem parse_spot (s:ByteArray) (w:World) (hL:Laid w) (hs:s.size≤200) (k:Nat) (hR:scan s.data.toList 0 []=([],(k:Int))):Calls Tryz.prog 85 #[.string s] w (PPost (.form k) w):=by
 have HR:=Lib.hid hR
 have HL:=Lib.hid hL
 clear hR hL
 go_enter Tryz.func85,Tryz.ntmps85
 go_wp2_with fail
 refine (tokens_any s w HL.out hs).mono ?_
 intro e w' hp
 rw [HR.out] at hp
 rcases hp with ⟨hb,⟨h1,_⟩ | ⟨k',g,h1,rfl,hg,hB⟩⟩
 · simp at h1
 · have hkk:k'=k:=by simp only [Prod.mk.injEq] at h1; omega
   subst hkk
   have HG:=Lib.hid hg
   have HB:=Lib.hid hB
   have HBB:=Lib.hid hb
   have hn:=fun W=>neq_spot_any (.pointer (some ⟨g,0,none⟩)) W
   clear h1 hg hB hb
   go_wp2_with fail
   go_ret2
   exact ⟨HBB.out,g,rfl,HG.out,HB.out⟩
set_option maxHeartbeats 2000000 in
theorem parse_read (s:ByteArray) (w:World) (hL:Laid w) (hs:s.size≤200) (ts:List Tk) (R:Res) (hR:scan s.data.toList 0 []=(ts,-1)) (hA:readAll ts=some R):Calls Tryz.prog 85 #[.string s] w (PPost (ansOf ts s.size R) w):=by
 have hlen:ts.length≤200:=by have:=scan_len s.data.toList; rw [hR,← Lib.size_eq] at this; simp at this; omega
 have hf:=rd_fits ts _ 1 0 [] R hA (Nat.zero_le _)
 have HR:=Lib.hid hR
 have HA:=Lib.hid hA
 have HL:=Lib.hid hL
 have HF:=Lib.hid hf
 have hnn:=fun W=>neq_nil_nil W
 clear hR hL hA hf
 go_enter Tryz.func85,Tryz.ntmps85
 go_wp2_with fail
 refine (tokens_any s w HL.out hs).mono ?_
 intro e w1 hp
 rw [HR.out] at hp
 rcases hp with ⟨hb,⟨_,v,rfl,hown⟩ | ⟨k',g,h1,_⟩⟩
 · have HT:=Lib.hid (ToksU.of (ToksAt.of_own hown))
   obtain ⟨A,cap,rfl,_⟩:=ToksAt.of_own hown
   have HB:=Lib.hid hb
   clear hown hb
   go_wp2_with fail
   have hba:Below w1.heap.size w1 (w1.alloc (.cells #[.slice A ts.length cap,.int .i64 0,.slice none 0 0] 167)):=(Below.refl _ _).alloc (Nat.le_refl _) _
   have HS0:Hid (RSt w1.heap.size (.slice A ts.length cap) (w1.alloc (.cells #[.slice A ts.length cap,.int .i64 0,.slice none 0 0] 167)) 0 (.slice none 0 0) []):=Lib.hid ⟨Blk.new _ _ _,World.ownsRow_nil _ _ _ _⟩
   have HT0:=Lib.hid (HT.out.below hba)
   have HBA:=Lib.hid hba
   clear hba
   refine (whole_any ts w1.heap.size _ _ R _ (by omega) HA.out HT0.out HS0.out).mono ?_
   intro e w2 hw
   cases R with
   | bad k =>
    obtain ⟨rfl,v',o,hk,hst⟩:=hw
    have HK:=Lib.hid (HBA.out.mono (Nat.le_refl _) |>.trans (HS0.out.below hk))
    have HS:=Lib.hid hst
    have HTT:=Lib.hid (HT0.out.below (HS0.out.below hk))
    clear hk hst
    go_wp2_with fail
    refine (byteIn_any ts w1.heap.size k s _ v' _ o HTT.out HS.out (by have:=HF.out; unfold Fits at this; omega) (by omega) (by omega)).mono ?_
    rintro e w3 ⟨rfl,a,rfl⟩
    go_wp2_with fail
    go_ret2
    refine ⟨below_drewN ((HB.out.trans (HK.out.mono HB.out.size)).alloc (Nat.le_trans HB.out.size HK.out.size) _) a,w2.heap.size,rfl,Nat.le_trans HB.out.size HK.out.size,?_⟩
    exact Blk.new w2 108 #[.int .i64 (byteAt ts s.size k),.int .i64 2]
   | ok k o =>
    obtain ⟨rfl,v',hk,hst⟩:=hw
    have HK:=Lib.hid (HBA.out.mono (Nat.le_refl _) |>.trans (HS0.out.below hk))
    have HS:=Lib.hid hst
    have HTT:=Lib.hid (HT0.out.below (HS0.out.below hk))
    have hol:o.length≤200:=by have:=HF.out; unfold Fits at this; simp at this; omega
    have hkl:k≤ts.length:=by have:=HF.out; unfold Fits at this; omega
    obtain ⟨A',cap',hv'⟩:=own_slice hst.own
    subst hv'
    clear hk
    by_cases ha:k=ts.length
    · have hq:isAll ts k=true:=by unfold isAll; simpa using ha
      have HAK:=Lib.hid ha
      obtain ⟨⟨c0,c1,c2⟩,_⟩:=hst.blk.facts3
      rw [hq]
      clear hst ha hq
      by_cases h100:o.length≤100
      · have hd:decide (100 < o.length)=false:=by simpa using h100
        go_wp2_with fail
        go_ret2
        rw [ansOf_toks _ _ _ _ HAK.out h100]
        exact ⟨HB.out.trans (HK.out.mono HB.out.size),_,rfl,own_base HS.out.own (Nat.le_trans HB.out.size (Nat.le_succ _))⟩
      · have hd:decide (100 < o.length)=true:=by simpa using h100
        have hd2:100 < o.length:=by omega
        go_wp2_with fail
        go_ret2
        rw [ansOf_large _ _ _ _ HAK.out hd2]
        exact ⟨HB.out.trans (HK.out.mono HB.out.size),rfl⟩
    · have hq:isAll ts k=false:=by unfold isAll; simpa using ha
      have HAK:=Lib.hid ha
      rw [hq]
      clear hst ha hq
      go_wp2_with fail
      refine (byteIn_any ts w1.heap.size k s _ _ _ o HTT.out HS.out hkl (by omega) (by omega)).mono ?_
      rintro e w3 ⟨rfl,a,rfl⟩
      go_wp2_with fail
      go_ret2
      rw [ansOf_form _ _ _ _ HAK.out]
      refine ⟨below_drewN ((HB.out.trans (HK.out.mono HB.out.size)).alloc (Nat.le_trans HB.out.size HK.out.size) _) a,w2.heap.size,rfl,Nat.le_trans HB.out.size HK.out.size,?_⟩
      exact Blk.new w2 108 #[.int .i64 (byteAt ts s.size k),.int .i64 2]
 · simp at h1
theorem parse_any (s:ByteArray) (w:World) (hL:Laid w) (hs:s.size≤1000000):Calls Tryz.prog 85 #[.string s] w (PPost (parseAns s.data.toList) w):=by
 unfold parseAns
 rw [← Lib.size_eq]
 by_cases h:s.size≤200
 · rw [if_pos h]
   unfold ansIn
   rcases scan_cases s.data.toList with h1 | ⟨k,h1⟩
   · obtain ⟨R,hR⟩:=readAll_some (scan s.data.toList 0 []).1
     rw [if_pos h1,hR]
     exact parse_read s w hL h _ R (by rw [← h1]) hR
   · rw [h1,if_neg (by simp)]
     exact parse_spot s w hL h k h1
 · rw [if_neg h]
   exact parse_large s w (by omega) hs
end Go.Proofs.YtmhkpjcdkjnlnaaGreatDoor
