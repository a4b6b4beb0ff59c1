/- Which transitions are ready, gathered and kept, plainly; and what follows of it: no two that are kept clash, each is ready, each was gathered, none twice; without Guards there is no mishap. No program in this text. -/
import Derived.Test.YtfgkcjmeiabdjaaGreatDoorFCgen
import Derived.Test.YtfgkcjmeiabdjaaGreatDoorFEtype
import Derived.Test.YtfgkcjmeiabdjaaGreatDoorFPparse
import Derived.Test.YtfgkcjmeiabdjaaGreatDoorFSrr
import Derived.Test.YtfgkcjmeiabdjaaGreatDoorFErof
namespace Go.Proofs.YtfgkcjmeiabdjaaGreatDoor
set_option linter.unusedVariables false

def trAt (R:List Tr) (i:Int):Tr:=R.getD i.toNat noTr
theorem trAt_nat {R:List Tr} {k:Nat} (h:k < R.length):R[k]?=some (trAt R (k:Int)):=by
  unfold trAt
  simp [List.getD,List.getElem?_eq_getElem h]
section
variable (env:List Int) (ev:Int)
end
section
variable (C:Ch) (env:List Int) (ev:Int)
end
structure Chc where
  num:Int
  src:Int
  left:Nat
section
variable (C:Ch) (lf:Int→Nat)
end
end Go.Proofs.YtfgkcjmeiabdjaaGreatDoor
/- The contracts of leave's functions: bit, isHistory, transOf, goalsOf, areIn, Reach, Set, Clash. -/
namespace Go.Proofs.YtfgkcjmeiabdjaaGreatDoor
open Go.ChangeShapes Go.WideShapes Go.ChangeAt Go.RowKit
set_option linter.unusedVariables false

theorem RowAt.old {ρ:Type} {B:Nat} {w:World} {e n g:Nat} {cells:ρ→List Value} {v:Value} {rs:List ρ} (h:RowAt B w e n cells v rs) (hg:g < B) (j:Nat) (u:Value):RowAt B (w.setCell ⟨g,j,none⟩ u) e n cells v rs:=by
  rcases h with h | ⟨g',cap,cur,h1,h2,h3,h4⟩
  · exact .inl h
  · refine .inr ⟨g',cap,cur,h1,h2,?_,h4⟩
    show _=_
    rw [Below.heap_setCell w ⟨g,j,none⟩ u g' (by show g' ≠ g; omega)]
    exact h3
theorem OwnCh.old {B g:Nat} {w:World} {vs vt:Value} {C:Ch} (h:OwnCh B w vs vt C) (hg:g < B) (j:Nat) (u:Value):OwnCh B (w.setCell ⟨g,j,none⟩ u) vs vt C:=by
  obtain ⟨rs,ts,q1,q2,q3,q4⟩:=h
  exact ⟨rs,ts,q1,q2,⟨q3.1.old hg j u,fun r hr=>⟨RowAt.old (q3.2 r hr).1 hg j u,RowAt.old (q3.2 r hr).2.1 hg j u,RowAt.old (q3.2 r hr).2.2 hg j u⟩⟩,q4.1.old hg j u,fun r hr=>⟨RowAt.old (q4.2 r hr).1 hg j u,RowAt.old (q4.2 r hr).2 hg j u⟩⟩
end Go.Proofs.YtfgkcjmeiabdjaaGreatDoor
/- The contracts of tree's Leaves, of choose's transOf, isPlace, holds, isReady, Ready, firstReady. -/
namespace Go.Proofs.YtfgkcjmeiabdjaaGreatDoor
open Go.ChangeShapes Go.WideShapes Go.ChangeAt Go.RowKit
set_option linter.unusedVariables false

theorem TrsAt.at_ {w:World} {v:Value} {R:List Tr} (h:TrsAt w v R) {k:Nat} (hk:k < R.length) :
    ∃ (b o cap:Nat) (wt wa:Value),v=.slice (some ⟨b,o,none⟩) R.length cap∧R.length≤cap∧b < w.heap.size∧TrC w b (o+k * 6) (trAt R (k:Int)) wt wa∧TrHas w wt wa (trAt R (k:Int)):=by
  obtain ⟨A,cap,hv,hc,hi⟩:=h
  obtain ⟨b,o,hA,hlt,wt,wa,h0,h1⟩:=hi k _ (trAt_nat hk)
  exact ⟨b,o,cap,wt,wa,by rw [hv,hA],hc,hlt,h0,h1⟩
end Go.Proofs.YtfgkcjmeiabdjaaGreatDoor
/- The contracts of choose's firstReady and Gather. -/
namespace Go.Proofs.YtfgkcjmeiabdjaaGreatDoor
open Go.ChangeShapes Go.WideShapes Go.ChangeAt Go.RowKit
set_option linter.unusedVariables false

end Go.Proofs.YtfgkcjmeiabdjaaGreatDoor
/- The contracts of the document's Ready, first, Leaves and Gather. -/
namespace Go.Proofs.YtfgkcjmeiabdjaaGreatDoor
open Go.ChangeShapes Go.WideShapes Go.ChangeAt Go.RowKit
set_option linter.unusedVariables false

theorem ans_cases (m:Md) (ts:List Tk) (hn:∀ t ∈ ts,t.2.1≤9223372036854775807) (hef:∀ x ∈ m.env,F64 x):(∃ k n,ans m ts=.ok k n∧Good (.ok k n)) ∨ ∃ c:Nat,ans m ts=.bad (c:Int)∧1≤c∧c≤13:=by
  cases hm:mayP ts with
  | true =>
    obtain ⟨hl,hV,htop⟩:=ans_may m hm
    have hg:=vs_good m hn hef ts.length (Nat.le_refl _) hV
    rw [htop] at hg
    have hg:=hg _ (List.mem_singleton.2 rfl)
    cases ha:ans m ts with
    | ok k n=>rw [ha] at hg; exact .inl ⟨k,n,rfl,hg⟩
    | bad c =>
      rw [ha] at hg
      right
      rcases hg with rfl | rfl | rfl
      · exact ⟨4,rfl,by omega,by omega⟩
      · exact ⟨8,rfl,by omega,by omega⟩
      · exact ⟨9,rfl,by omega,by omega⟩
  | false=>exact .inr ⟨2,ans_not m hm,by omega,by omega⟩
theorem wp_append_at {P:Program} {o:Oper} {a:Act} {w:World} {K:Act→World→Prop} {Q:Exit→Act→World→Prop} (s x:Operand) (t:TypeId)
    (ho:o.op=.call { callee:=.builtin .append,args:=#[s,x],argTypes:=#[t,t] })
    (base:Nat) (e:TypeId) (i:TypeInfo) (z:Value) (size bytes:Nat) (ht:P.underlying t=some (.slice e)) (hi:P.info? e=some i) (hz:i.zero=some z)
    (hsize:i.size=size) (hby:i.bytes=bytes) (hzs:z.cells.size=size) (hsz:0 < size)
    (v:Value) (n:Nat) (xs:List Value) (hs:a.eval s=v) (hown:w.ownsRow base e size v n xs)
    (ad:Addr) (m c:Nat) (news:List Value) (hx:a.eval x=.slice (some ad) m c) (hl:news.length=m * size) (hnews:∀ j u,news[j]?=some u→w.cell? (ad.add j)=some u) (h1:∀ u ∈ news,u.oneCell'=true)
    (h63:n+m≤maxLen) (hbytes:(n+m) * bytes≤140737488355328) (hbase:base≤w.heap.size)
    (h:∀ v' w',w'.ownsRow base e size v' (n+m) (xs ++ news)→w.grownBy w' v.ownBlock→(v'.ownBlock=v.ownBlock ∨ v'.ownBlock=some w.heap.size)→K (a.put o.dst v') w') :
    o.wp P a w K Q:=by
  obtain ⟨v',w',hr,h2,h3,h4,h5⟩:=run_append_own_at (P:=P) w base t o.type e i z size bytes ht hi hz hsize hby hzs hsz v n xs hown ad m c news hl hnews h1 h63 hbytes hbase
  unfold Oper.wp execOp
  simp only [ho,resolve,invoke,builtin,Sem.run_bind,Sem.run_pure,Result.andThen_ok,List.map_toArray,List.map_cons,List.map_nil,hs,hx,hr]
  exact h _ _ h2 h3 h5
theorem anyD_two {P:Program} {ops:Array Oper} {Q:Exit→Act→World→Prop} {md:Region.Mode} {S:World→Prop} {D:Nat→Bool} {i j:Nat} {oi oj:Oper} {fuel:Nat} {listed:Array Bool} {a:Act} {w:World}
    (hi:ops[i]?=some oi) (hgi:oi.guard=none) (hj:ops[j]?=some oj) (hgj:oj.guard=none) (hr:Region.ready md ops listed=[i,j])
    (h1:∀ K:Act→World→Prop,Hid (∀ a' w',(D i=false→S w→S w')→anyD P md ops Q S D fuel (listed.setIfInBounds i true) a' w'→K a' w')→oi.wp P a w K Q)
    (h2:∀ K:Act→World→Prop,Hid (∀ a' w',(D j=false→S w→S w')→anyD P md ops Q S D fuel (listed.setIfInBounds j true) a' w'→K a' w')→oj.wp P a w K Q):anyD P md ops Q S D (fuel+1) listed a w:=by
  refine ⟨fun h0=>(by rw [hr] at h0; cases h0),fun k hk=>?_⟩
  rw [hr] at hk
  rcases List.mem_cons.1 hk with rfl | hk
  · unfold wpOp
    rw [hi]
    simp only [Region.wanted,hgi,if_true]
    exact .inl (h1 _ (Lib.hid fun a' w' h1 h2=>⟨h1,h2⟩))
  · obtain rfl:=List.mem_singleton.1 hk
    unfold wpOp
    rw [hj]
    simp only [Region.wanted,hgj,if_true]
    exact .inl (h2 _ (Lib.hid fun a' w' h1 h2=>⟨h1,h2⟩))
end Go.Proofs.YtfgkcjmeiabdjaaGreatDoor
