/- Which transitions are ready, gathered and kept, plainly; and what follows of it: no two that are kept clash, each is ready, each was gathered, none twice; without Guards there is no mishap. No program in this text. -/
import Derived.Test.YtmhkpjcdkjnlnaaGreatDoorFWSpure
import Derived.Test.YtmhkpjcdkjnlnaaGreatDoorFWEtype
import Derived.Test.YtmhkpjcdkjnlnaaGreatDoorFWPparse
import Derived.Test.YtmhkpjcdkjnlnaaGreatDoorFWSx
import Derived.Test.YtmhkpjcdkjnlnaaGreatDoorFWSrl
import Derived.Test.YtmhkpjcdkjnlnaaGreatDoorFWShd
import Derived.Test.YtmhkpjcdkjnlnaaGreatDoorFWEof
import Derived.Test.YtmhkpjcdkjnlnaaGreatDoorFWPlev
import Derived.Deep.RegionWith
import Derived.Test.YtmhkpjcdkjnlnaaGreatDoorFWPwhole
import Derived.Test.YtmhkpjcdkjnlnaaGreatDoorFWZgen
import Derived.Test.YtmhkpjcdkjnlnaaGreatDoorFWCgen
import Derived.Test.YtmhkpjcdkjnlnaaGreatDoorFWTmem
import Derived.Test.YtmhkpjcdkjnlnaaGreatDoorFWPopd
import Derived.Test.YtmhkpjcdkjnlnaaGreatDoorFWDrw
import Derived.Laws.StructEq
import Derived.Laws.AppendOwnNone
import Derived.Test.YtmhkpjcdkjnlnaaGreatDoorFWMsn
import Derived.Laws.BitsAllLaws
namespace Go.Proofs.YtmhkpjcdkjnlnaaGreatDoor
set_option linter.unusedVariables false

def trAt (R:List Tr) (i:Int):Tr:=R.getD i.toNat noTr
theorem trAt_nat {R:List Tr} {k:Nat} (h:k < R.length):R[k]?=some (trAt R (k:Int)):=by
 unfold trAt
 simp [List.getD,List.getElem?_eq_getElem h]
section
variable (env:List Int) (ev:Int)
end
section
variable (C:Ch) (env:List Int) (ev:Int)
end
section
variable (C:Ch) (lf:Int→Nat)
end
open Go.ChangeShapes Go.WideShapes Go.ChangeAt Go.RowKit


theorem few_guard {C:Ch} (hF:fewB C=true) {k:Nat} (hk:k < C.trs.length):(trAt C.trs (k:Int)).guard.size≤500:=by
 have:=(few_parts hF).2.2.2 k hk
 unfold fewTrB at this
 simp only [Bool.and_eq_true,decide_eq_true_eq] at this
 have h2:trAt C.trs (k:Int)=C.trs.getD k noTr:=rfl
 rw [h2]
 exact this.2
theorem TrsAt.at_ {w:World} {v:Value} {R:List Tr} (h:TrsAt w v R) {k:Nat} (hk:k < R.length) :
 ∃ (b o cap:Nat) (wt wa:Value),v=.slice (some ⟨b,o,none⟩) R.length cap∧R.length≤cap∧b < w.heap.size∧TrC w b (o+k * 6) (trAt R (k:Int)) wt wa∧TrHas w wt wa (trAt R (k:Int)):=by
 obtain ⟨A,cap,hv,hc,hi⟩:=h
 obtain ⟨b,o,hA,hlt,wt,wa,h0,h1⟩:=hi k _ (trAt_nat hk)
 exact ⟨b,o,cap,wt,wa,by rw [hv,hA],hc,hlt,h0,h1⟩

theorem anyD_two {P:Program} {ops:Array Oper} {Q:Exit→Act→World→Prop} {md:Region.Mode} {S:World→Prop} {D:Nat→Bool} {i j:Nat} {oi oj:Oper} {fuel:Nat} {listed:Array Bool} {a:Act} {w:World}
 (hi:ops[i]?=some oi) (hgi:oi.guard=none) (hj:ops[j]?=some oj) (hgj:oj.guard=none) (hr:Region.ready md ops listed=[i,j])
 (h1:∀ K:Act→World→Prop,Hid (∀ a' w',(D i=false→S w→S w')→anyD P md ops Q S D fuel (listed.setIfInBounds i true) a' w'→K a' w')→oi.wp P a w K Q)
 (h2:∀ K:Act→World→Prop,Hid (∀ a' w',(D j=false→S w→S w')→anyD P md ops Q S D fuel (listed.setIfInBounds j true) a' w'→K a' w')→oj.wp P a w K Q):anyD P md ops Q S D (fuel+1) listed a w:=by
 refine ⟨fun h0=>(by rw [hr] at h0; cases h0),fun k hk=>?_⟩
 rw [hr] at hk
 rcases List.mem_cons.1 hk with rfl | hk
 · unfold wpOp
   rw [hi]
   simp only [Region.wanted,hgi,if_true]
   exact .inl (h1 _ (Lib.hid fun a' w' h1 h2=>⟨h1,h2⟩))
 · obtain rfl:=List.mem_singleton.1 hk
   unfold wpOp
   rw [hj]
   simp only [Region.wanted,hgj,if_true]
   exact .inl (h2 _ (Lib.hid fun a' w' h1 h2=>⟨h1,h2⟩))
open Go.RowKit

structure Ou where
 kind:Int
 ev:Int
 dl:Int
 to:Int




structure Se where
 a:Nat→Bool
 hist:List Nat
 env:List Int
 ins:List Int
 st:Int
 out:List Ou

theorem or_sets (P Q:Nat→Bool) (n:Nat) (hn:n≤31):bits .or .u32 ((bset P n:Nat):Int) ((bset Q n:Nat):Int)=((bset (fun k=>P k || Q k) n:Nat):Int):=by
 rw [(bits_nat .u32 32 (by decide) wrap_u32 _ _ (bset_u32 P hn) (bset_u32 Q hn)).2]
 congr 1
 refine Nat.eq_of_testBit_eq fun i=>?_
 rw [Nat.testBit_or,bset_test,bset_test,bset_test]
 by_cases hi:i < n <;> simp [hi]
theorem bset_congr {P Q:Nat→Bool}:∀ n:Nat,(∀ k,k < n→P k=Q k)→bset P n=bset Q n
 | 0,_=>rfl
 | n+1,h=>by rw [bset,bset,bset_congr n (fun k hk=>h k (by omega)),h n (by omega)]
theorem RowAt.free {ρ:Type} {B:Nat} {w:World} {e n:Nat} {cells:ρ→List Value} {v:Value} {L:List ρ} (h:RowAt B w e n cells v L) {k:Nat} (hk:k < B):v.ownBlock ≠ some k:=by
 rcases h with ⟨rfl,_⟩ | ⟨g',cap,cur,rfl,h2,_⟩
 · intro hc; cases hc
 · intro hc
   have hc:g'=k:=by injection hc
   omega
section
variable {w0:World} {M:Nat→Option Obj} {t g:Nat} {vs vt:Value} {C:Ch} {w w':World} {vh ve vi vo:Value} {X:Se}
end
end Go.Proofs.YtmhkpjcdkjnlnaaGreatDoor
