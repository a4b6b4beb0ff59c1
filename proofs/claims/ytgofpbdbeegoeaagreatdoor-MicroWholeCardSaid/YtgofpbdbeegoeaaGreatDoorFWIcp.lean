/- Regions that draw their order, by an invariant that speaks of what is done so far: for regions with too many orders for a tree. No program in this text. -/
import Derived.Test.YtgofpbdbeegoeaaGreatDoorFWEstepl
import Derived.Test.YtgofpbdbeegoeaaGreatDoorFWImem
import Derived.Test.YtgofpbdbeegoeaaGreatDoorFWIfi
namespace Go.Proofs.YtgofpbdbeegoeaaGreatDoor
open Go.RowKit
set_option linter.unusedVariables false
section
variable {P:Program} {ops:Array Oper} {Q:Exit→Act→World→Prop} {md:Region.Mode} {S:World→Prop} {D:Nat→Bool}
def undone (listed:Array Bool):Nat:=listed.toList.count false
theorem undone_set {listed:Array Bool} {i:Nat} (h:listed.getD i true=false):undone (listed.setIfInBounds i true)+1=undone listed:=by
 rcases Nat.lt_or_ge i listed.size with h' | h'
 · have hg:listed.toList[i]'(by simpa using h')=false:=by
    have:listed.getD i true=listed[i]:=by simp [h']
    rw [this] at h
    simpa using h
   have hpos:0 < listed.toList.count false:=List.count_pos_iff.2 (by rw [← hg]; exact List.getElem_mem _)
   unfold undone
   rw [Array.toList_setIfInBounds,List.count_set (by simpa using h'),hg]
   simp only [beq_self_eq_true,if_true,show (true == false)=false from rfl,Bool.false_eq_true,if_false]
   omega
 · rw [Array.getD_eq_getD_getElem?,Array.getElem?_eq_none h'] at h
   cases h
theorem undone_none {listed:Array Bool} (h:undone listed=0):Region.ready md ops listed=[]:=by
 rcases hr:Region.ready md ops listed with _ | ⟨j,l⟩
 · rfl
 · have hj:j ∈ Region.ready md ops listed:=by rw [hr]; exact List.mem_cons_self
   obtain ⟨hjun,-⟩:=mem_ready.1 hj
   have:=undone_set hjun
   omega
theorem anyD_inv (I:Array Bool→Act→World→Prop)
 (hdone:∀ listed a w,I listed a w→Region.ready md ops listed=[]→Q .normal a w)
 (hstep:∀ listed a w,I listed a w→∀ i ∈ Region.ready md ops listed,wpOp P ops Q i (fun a' w'=>(D i=false→S w→S w')∧I (listed.setIfInBounds i true) a' w') a w) :
 ∀ (fuel:Nat) (listed:Array Bool) (a:Act) (w:World),undone listed≤fuel→I listed a w→anyD P md ops Q S D fuel listed a w:=by
 intro fuel
 induction fuel with
 | zero =>
  intro listed a w hu hI
  have hr:Region.ready md ops listed=[]:=undone_none (by omega)
  exact ⟨hr,hdone _ _ _ hI hr⟩
 | succ fuel ih =>
  intro listed a w hu hI
  refine ⟨fun hr=>hdone _ _ _ hI hr,fun i hi=>?_⟩
  refine wpOp_mono (fun a' w' h=>⟨h.1,ih _ _ _ ?_ h.2⟩) (hstep _ _ _ hI i hi)
  have:=undone_set (mem_ready.1 hi).1
  omega
theorem wpOp_plain {i:Nat} {o:Oper} {a:Act} {w:World} {K:Act→World→Prop} (ho:ops[i]?=some o) (hg:o.guard=none)
 (h:∀ K':Act→World→Prop,Hid (∀ a' w',K a' w'→K' a' w')→o.wp P a w K' Q):wpOp P ops Q i K a w:=by
 unfold wpOp
 rw [ho]
 simp only [Region.wanted,hg,if_true]
 exact .inl (h _ (Lib.hid fun a' w' h=>h))
end
theorem wp_append_row3 {P:Program} {w W:World} {o:Oper} {a:Act} {K:Act→World→Prop} {Q:Exit→Act→World→Prop} (s x:Operand) (t:TypeId)
 (ho:o.op=.call { callee:=.builtin .append,args:=#[s,x],argTypes:=#[t,t] })
 (base:Nat) (e:TypeId) (i:TypeInfo) (z:Value) (size bytes:Nat) (ht:P.underlying t=some (.slice e)) (hi:P.info? e=some i) (hz:i.zero=some z)
 (hsize:i.size=size) (hby:i.bytes=bytes) (hzs:z.cells.size=size) (hsz:0 < size)
 (v:Value) (n:Nat) (xs:List Value) (hs:a.eval s=v) (hown:W.ownsRow base e size v n xs)
 (u:Value) (m:Nat) (news:List Value) (hx:a.eval x=u) (hr:RowIs w size u m news) (hb:Below w.heap.size w W)
 (h63:n+m≤maxLen) (hbytes:(n+m) * bytes≤140737488355328) (hbase:base≤W.heap.size)
 (h:∀ v' w',w'.ownsRow base e size v' (n+m) (xs ++ news)→W.grownBy w' v.ownBlock→(v'.ownBlock=v.ownBlock ∨ v'.ownBlock=some W.heap.size)→K (a.put o.dst v') w'):o.wp P a W K Q:=by
 obtain ⟨hn,⟨c,rfl,rfl⟩ | ⟨ad,cap,rfl,hc,h1⟩⟩:=hr
 · obtain rfl:news=[]:=List.eq_nil_of_length_eq_zero (by simpa using hn)
   have hrun:(Builtin.append_ #[t,t] o.type #[v,.slice none 0 c]).run P W=.ok v W:=by
    rcases hown.2 with ⟨rfl,rfl⟩ | ⟨g,cap,cur,rfl,_,_,hnc,_⟩
    · simp [Builtin.append_,run_underlying ht,sizeOf,typeInfo,hi,Builtin.lenOf,Builtin.firstCells,go_sem]
    · simp [Builtin.append_,run_underlying ht,sizeOf,typeInfo,hi,Builtin.lenOf,Builtin.firstCells,hnc,storeCells,go_sem]
   unfold Oper.wp execOp
   simp only [ho,resolve,invoke,builtin,Sem.run_bind,Sem.run_pure,Result.andThen_ok,List.map_toArray,List.map_cons,List.map_nil,hs,hx,hrun]
   exact h v W (by simpa using hown) ⟨rfl,rfl,rfl,Nat.le_refl _,fun _ _ _=>rfl⟩ (.inl rfl)
 · exact wp_append_at s x t ho base e i z size bytes ht hi hz hsize hby hzs hsz v n xs hs hown ad m cap news hx hn (fun j u hj=>(hb.cell (Lib.lt_of_cell (hc j u hj))).trans (hc j u hj)) h1 h63 hbytes hbase h

abbrev Sl:=Option Nat × (World→Prop)
def Sl.Fast (s:Sl):Prop:=∀ W W' r,W.grownBy W' r→(s.1=none ∨ s.1 ≠ r)→s.2 W→s.2 W'
structure Slots (base:Nat) (W:World) (f:Nat→Sl):Prop where
 fast:∀ i,(f i).Fast
 holds:∀ i,(f i).2 W
 lie:∀ i k,(f i).1=some k→base≤k∧k < W.heap.size
 apart:∀ i j,i ≠ j→(f i).1=none ∨ (f i).1 ≠ (f j).1
theorem Slots.step {base:Nat} {W W':World} {f g:Nat→Sl} (i:Nat) (h:Slots base W f) (hg:W.grownBy W' (f i).1) (hb:base≤W.heap.size) (hf:(g i).Fast) (hi:(g i).2 W')
 (hl:(g i).1=none ∨ ((g i).1=(f i).1 ∨ (g i).1=some W.heap.size∧W.heap.size < W'.heap.size)) (ho:∀ j,j ≠ i→g j=f j):Slots base W' g where
 fast j:=by
  by_cases hj:j=i
  · subst hj; exact hf
  · rw [ho j hj]; exact h.fast j
 holds j:=by
  by_cases hj:j=i
  · subst hj; exact hi
  · rw [ho j hj]; exact h.fast j W W' _ hg (h.apart j i hj) (h.holds j)
 lie j k hk:=by
  have hs:=hg.size
  by_cases hj:j=i
  · subst hj
    rcases hl with h1 | h1 | ⟨h1,h2⟩
    · rw [h1] at hk; cases hk
    · rw [h1] at hk
      have:=h.lie j k hk
      omega
    · rw [h1] at hk
      cases hk
      omega
  · rw [ho j hj] at hk
    have:=h.lie j k hk
    omega
 apart j k hjk:=by
  by_cases hj:j=i
  · subst hj
    have hk:k ≠ j:=Ne.symm hjk
    rw [ho k hk]
    rcases hl with h1 | h1 | ⟨h1,h2⟩
    · exact .inl h1
    · rw [h1]; exact h.apart j k hjk
    · refine .inr fun he=>?_
      rw [h1] at he
      have:=(h.lie k _ he.symm).2
      omega
  · rw [ho j hj]
    by_cases hk:k=i
    · subst hk
      rcases hl with h1 | h1 | ⟨h1,h2⟩
      · rw [h1]
        cases hc:(f j).1 with
        | none=>exact .inl rfl
        | some x=>exact .inr (by simp)
      · rw [h1]; exact h.apart j k hjk
      · cases hc:(f j).1 with
        | none=>exact .inl rfl
        | some x =>
         refine .inr fun he=>?_
         rw [h1] at he
         cases he
         have:=(h.lie j _ hc).2
         omega
    · rw [ho k hk]; exact h.apart j k hjk
theorem Slots.none (base:Nat) (W:World):Slots base W (fun _=>(Option.none,fun _=>True)) :=
 ⟨fun _ _ _ _ _ _ _=>trivial,fun _=>trivial,fun _ _ h=>(by cases h),fun _ _ _=>.inl rfl⟩
def rowSl (base e:Nat) (xs:List Value) (b c:Bool) (v u:Value):Sl :=
 if c then (u.ownBlock,fun W=>W.ownsRow base e 1 u xs.length xs) else if b then (v.ownBlock,fun W=>W.ownsRow base e 1 v 0 []) else (Option.none,fun _=>True)
theorem rowSl_fast (base e:Nat) (xs:List Value) (b c:Bool) (v u:Value):(rowSl base e xs b c v u).Fast:=by
 unfold rowSl
 intro W W' r hg hn h
 cases c with
 | true=>exact World.ownsRow.kept h hg hn
 | false =>
  cases b with
  | true=>exact World.ownsRow.kept h hg hn
  | false=>trivial
def boxSl (cur:Array Value) (t:Nat) (b:Bool) (g:Nat):Sl :=
 if b then (some g,fun W=>W.heap[g]?=some (.cells cur t)) else (Option.none,fun _=>True)
theorem boxSl_fast (cur:Array Value) (t:Nat) (b:Bool) (g:Nat):∀ W W' r,W.grownBy W' r→((boxSl cur t b g).1=none ∨ (boxSl cur t b g).1 ≠ r)→(b=true→g < W.heap.size)→(boxSl cur t b g).2 W→(boxSl cur t b g).2 W':=by
 unfold boxSl
 intro W W' r hg hn hb h
 cases b with
 | false=>trivial
 | true=>exact (hg.block g (hb rfl) (by simpa using hn)).trans h
theorem boxSl_quick (cur:Array Value) (t:Nat) (b:Bool) (g:Nat):(boxSl cur t b g).Fast:=by
 intro W W' r hg hn h
 refine boxSl_fast cur t b g W W' r hg hn ?_ h
 rintro rfl
 exact (Array.getElem?_eq_some_iff.1 h).1
def four (a b c d:Sl):Nat→Sl
 | 0=>a
 | 1=>b
 | 2=>c
 | 3=>d
 | _=>(Option.none,fun _=>True)

theorem put_size (A:Act) (d:Option Tmp) (v:Value):(A.put d v).tmps.size=A.tmps.size:=by
 cases d with
 | none=>rfl
 | some d=>exact Array.size_setIfInBounds
theorem lt88 {n k:Nat} (h:88 < n) (hk:k≤88):k < n:=Nat.lt_of_le_of_lt hk h
theorem put_eq {A:Act} {d:Tmp} (v:Value) (h:d < A.tmps.size):(A.put (some d) v).eval (.tmp d)=v:=by
 show (A.tmps.setIfInBounds d v).getD d undef=v
 simp [h]
theorem put_ne {A:Act} {d t:Tmp} (v:Value) (h:d ≠ t):(A.put (some d) v).eval (.tmp t)=A.eval (.tmp t):=by
 show (A.tmps.setIfInBounds d v).getD t undef=A.tmps.getD t undef
 rw [Array.getD_eq_getD_getElem?,Array.getD_eq_getD_getElem?,Array.getElem?_setIfInBounds_ne h]
theorem put_comm {A:Act} {d e:Tmp} {v u:Value} (h:d ≠ e):(A.put (some d) v).put (some e) u=(A.put (some e) u).put (some d) v:=by
 show Act.mk ((A.tmps.setIfInBounds d v).setIfInBounds e u) A.defers=Act.mk ((A.tmps.setIfInBounds e u).setIfInBounds d v) A.defers
 rw [Array.setIfInBounds_comm _ _ h]
theorem put_put {A:Act} {d:Tmp} {v u:Value}:(A.put (some d) v).put (some d) u=A.put (some d) u:=by
 show Act.mk ((A.tmps.setIfInBounds d v).setIfInBounds d u) A.defers=Act.mk (A.tmps.setIfInBounds d u) A.defers
 rw [Array.setIfInBounds_setIfInBounds]
theorem put_none {A:Act} {v:Value}:A.put none v=A:=rfl
theorem put_self {A:Act} {d:Tmp}:A.put (some d) (A.eval (.tmp d))=A:=by
 show Act.mk (A.tmps.setIfInBounds d (A.tmps.getD d undef)) A.defers=A
 have:A.tmps.setIfInBounds d (A.tmps.getD d undef)=A.tmps:=by
  refine Array.ext_getElem? fun i=>?_
  by_cases hd:d=i
  · subst hd
    rcases Nat.lt_or_ge d A.tmps.size with h | h
    · simp [h]
    · simp [Array.setIfInBounds,Nat.not_lt.2 h]
  · rw [Array.getElem?_setIfInBounds_ne hd]
 rw [this]
def actF (A:Act) (v2 v5 v6 v9 v10 v13 v16 v17:Value):Act :=
 (((((((A.put (some 74) v2).put (some 77) v5).put (some 78) v6).put (some 81) v9).put (some 82) v10).put (some 85) v13).put (some 88) v16).put (some 16) v17
theorem actF_self (A:Act):A=actF A (A.eval (.tmp 74)) (A.eval (.tmp 77)) (A.eval (.tmp 78)) (A.eval (.tmp 81)) (A.eval (.tmp 82)) (A.eval (.tmp 85)) (A.eval (.tmp 88)) (A.eval (.tmp 16)):=by
 unfold actF
 simp only [put_self]
section
variable (A:Act) (v2 v5 v6 v9 v10 v13 v16 v17 u:Value)
theorem actF_2:(actF A v2 v5 v6 v9 v10 v13 v16 v17).put (some 74) u=actF A u v5 v6 v9 v10 v13 v16 v17:=by
 unfold actF
 rw [put_comm (show (16:Tmp) ≠ 74 by decide),put_comm (show (88:Tmp) ≠ 74 by decide),put_comm (show (85:Tmp) ≠ 74 by decide),put_comm (show (82:Tmp) ≠ 74 by decide),put_comm (show (81:Tmp) ≠ 74 by decide),put_comm (show (78:Tmp) ≠ 74 by decide),put_comm (show (77:Tmp) ≠ 74 by decide),put_put]
theorem actF_5:(actF A v2 v5 v6 v9 v10 v13 v16 v17).put (some 77) u=actF A v2 u v6 v9 v10 v13 v16 v17:=by
 unfold actF
 rw [put_comm (show (16:Tmp) ≠ 77 by decide),put_comm (show (88:Tmp) ≠ 77 by decide),put_comm (show (85:Tmp) ≠ 77 by decide),put_comm (show (82:Tmp) ≠ 77 by decide),put_comm (show (81:Tmp) ≠ 77 by decide),put_comm (show (78:Tmp) ≠ 77 by decide),put_put]
theorem actF_6:(actF A v2 v5 v6 v9 v10 v13 v16 v17).put (some 78) u=actF A v2 v5 u v9 v10 v13 v16 v17:=by
 unfold actF
 rw [put_comm (show (16:Tmp) ≠ 78 by decide),put_comm (show (88:Tmp) ≠ 78 by decide),put_comm (show (85:Tmp) ≠ 78 by decide),put_comm (show (82:Tmp) ≠ 78 by decide),put_comm (show (81:Tmp) ≠ 78 by decide),put_put]
theorem actF_9:(actF A v2 v5 v6 v9 v10 v13 v16 v17).put (some 81) u=actF A v2 v5 v6 u v10 v13 v16 v17:=by
 unfold actF
 rw [put_comm (show (16:Tmp) ≠ 81 by decide),put_comm (show (88:Tmp) ≠ 81 by decide),put_comm (show (85:Tmp) ≠ 81 by decide),put_comm (show (82:Tmp) ≠ 81 by decide),put_put]
theorem actF_10:(actF A v2 v5 v6 v9 v10 v13 v16 v17).put (some 82) u=actF A v2 v5 v6 v9 u v13 v16 v17:=by
 unfold actF
 rw [put_comm (show (16:Tmp) ≠ 82 by decide),put_comm (show (88:Tmp) ≠ 82 by decide),put_comm (show (85:Tmp) ≠ 82 by decide),put_put]
theorem actF_13:(actF A v2 v5 v6 v9 v10 v13 v16 v17).put (some 85) u=actF A v2 v5 v6 v9 v10 u v16 v17:=by
 unfold actF
 rw [put_comm (show (16:Tmp) ≠ 85 by decide),put_comm (show (88:Tmp) ≠ 85 by decide),put_put]
theorem actF_16:(actF A v2 v5 v6 v9 v10 v13 v16 v17).put (some 88) u=actF A v2 v5 v6 v9 v10 v13 u v17:=by
 unfold actF
 rw [put_comm (show (16:Tmp) ≠ 88 by decide),put_put]
theorem actF_17:(actF A v2 v5 v6 v9 v10 v13 v16 v17).put (some 16) u=actF A v2 v5 v6 v9 v10 v13 v16 u:=by
 unfold actF
 rw [put_put]
theorem actF_else {t:Tmp} (h:t ≠ 74∧t ≠ 77∧t ≠ 78∧t ≠ 81∧t ≠ 82∧t ≠ 85∧t ≠ 88∧t ≠ 16):(actF A v2 v5 v6 v9 v10 v13 v16 v17).eval (.tmp t)=A.eval (.tmp t):=by
 obtain ⟨h1,h2,h3,h4,h5,h6,h7,h8⟩:=h
 unfold actF
 rw [put_ne _ h8.symm,put_ne _ h7.symm,put_ne _ h6.symm,put_ne _ h5.symm,put_ne _ h4.symm,put_ne _ h3.symm,put_ne _ h2.symm,put_ne _ h1.symm]
variable {A} (hA:88 < A.tmps.size)
include hA
theorem actF_e74:(actF A v2 v5 v6 v9 v10 v13 v16 v17).eval (.tmp 74)=v2:=by
 unfold actF
 rw [put_ne _ (by decide),put_ne _ (by decide),put_ne _ (by decide),put_ne _ (by decide),put_ne _ (by decide),put_ne _ (by decide),put_ne _ (by decide),put_eq _ (lt88 (by simpa only [put_size] using hA) (by decide))]
theorem actF_e77:(actF A v2 v5 v6 v9 v10 v13 v16 v17).eval (.tmp 77)=v5:=by
 unfold actF
 rw [put_ne _ (by decide),put_ne _ (by decide),put_ne _ (by decide),put_ne _ (by decide),put_ne _ (by decide),put_ne _ (by decide),put_eq _ (lt88 (by simpa only [put_size] using hA) (by decide))]
theorem actF_e78:(actF A v2 v5 v6 v9 v10 v13 v16 v17).eval (.tmp 78)=v6:=by
 unfold actF
 rw [put_ne _ (by decide),put_ne _ (by decide),put_ne _ (by decide),put_ne _ (by decide),put_ne _ (by decide),put_eq _ (lt88 (by simpa only [put_size] using hA) (by decide))]
theorem actF_e81:(actF A v2 v5 v6 v9 v10 v13 v16 v17).eval (.tmp 81)=v9:=by
 unfold actF
 rw [put_ne _ (by decide),put_ne _ (by decide),put_ne _ (by decide),put_ne _ (by decide),put_eq _ (lt88 (by simpa only [put_size] using hA) (by decide))]
theorem actF_e82:(actF A v2 v5 v6 v9 v10 v13 v16 v17).eval (.tmp 82)=v10:=by
 unfold actF
 rw [put_ne _ (by decide),put_ne _ (by decide),put_ne _ (by decide),put_eq _ (lt88 (by simpa only [put_size] using hA) (by decide))]
theorem actF_e85:(actF A v2 v5 v6 v9 v10 v13 v16 v17).eval (.tmp 85)=v13:=by
 unfold actF
 rw [put_ne _ (by decide),put_ne _ (by decide),put_eq _ (lt88 (by simpa only [put_size] using hA) (by decide))]
theorem actF_e88:(actF A v2 v5 v6 v9 v10 v13 v16 v17).eval (.tmp 88)=v16:=by
 unfold actF
 rw [put_ne _ (by decide),put_eq _ (lt88 (by simpa only [put_size] using hA) (by decide))]
theorem actF_e16:(actF A v2 v5 v6 v9 v10 v13 v16 v17).eval (.tmp 16)=v17:=by
 unfold actF
 rw [put_eq _ (lt88 (by simpa only [put_size] using hA) (by decide))]
end
def okF (b2 b5 b6 b9 b10 b13 b16 b17 b18:Bool):Bool:=(!b5 || b2) && (!b9 || (b5 && b6)) && (!b13 || (b9 && b10)) && (!b16 || b13) && (!b18 || (b16 && b17))
def tabF (b2 b5 b6 b9 b10 b13 b16 b17 b18:Bool):Array Bool:=#[true,true,b2,true,true,b5,b6,true,true,b9,b10,true,true,b13,true,true,b16,b17,b18]
def canF (i:Nat) (b2 b5 b6 b9 b10 b13 b16 b17 b18:Bool):Bool :=
 (i == 2 && !b2) || (i == 5 && b2 && !b5) || (i == 6 && !b6) || (i == 9 && b5 && b6 && !b9) || (i == 10 && !b10) || (i == 13 && b9 && b10 && !b13) || (i == 16 && b13 && !b16) || (i == 17 && !b17) || (i == 18 && b16 && b17 && !b18)
def RdF (md:Region.Mode) (ops:Array Oper):Prop:=∀ b2 b5 b6 b9 b10 b13 b16 b17 b18:Bool,okF b2 b5 b6 b9 b10 b13 b16 b17 b18=true →
 (∀ i ∈ Region.ready md ops (tabF b2 b5 b6 b9 b10 b13 b16 b17 b18),canF i b2 b5 b6 b9 b10 b13 b16 b17 b18=true)∧((Region.ready md ops (tabF b2 b5 b6 b9 b10 b13 b16 b17 b18)).isEmpty=true→(b2 && b5 && b6 && b9 && b10 && b13 && b16 && b17 && b18)=true)
instance (md:Region.Mode) (ops:Array Oper):Decidable (RdF md ops):=by unfold RdF; infer_instance
def IsOp (ops:Array Oper) (i:Nat) (d:Option Tmp) (op:Op):Prop:=∃ o:Oper,ops[i]?=some o∧o.dst=d∧o.guard=none∧o.op=op
theorem IsOp.wp {P:Program} {ops:Array Oper} {Q:Exit→Act→World→Prop} {i:Nat} {d:Option Tmp} {op:Op} {a:Act} {w:World} {K:Act→World→Prop} (h:IsOp ops i d op)
 (hw:∀ (o:Oper) (K':Act→World→Prop),o.dst=d→o.op=op→(∀ a' w',K a' w'→K' a' w')→o.wp P a w K' Q):wpOp P ops Q i K a w:=by
 obtain ⟨o,h1,h2,h3,h4⟩:=h
 exact wpOp_plain h1 h3 fun K' hK=>hw o K' h2 h4 hK.out
structure CopyOps (ops:Array Oper):Prop where
 o2:IsOp ops 2 (some 74) (.buildSlice 27 0 #[])
 o5:IsOp ops 5 (some 77) (.call { callee:=.builtin .append,args:=#[.tmp 74,.tmp 76],argTypes:=#[27,27] })
 o6:IsOp ops 6 (some 78) (.buildSlice 28 0 #[])
 o9:IsOp ops 9 (some 81) (.call { callee:=.builtin .append,args:=#[.tmp 78,.tmp 80],argTypes:=#[28,28] })
 o10:IsOp ops 10 (some 82) (.buildSlice 29 0 #[])
 o13:IsOp ops 13 (some 85) (.call { callee:=.builtin .append,args:=#[.tmp 82,.tmp 84],argTypes:=#[29,29] })
 o16:IsOp ops 16 (some 88) (.build 31 #[(0,.tmp 73),(1,.tmp 77),(2,.tmp 81),(3,.tmp 85),(4,.tmp 87)])
 o17:IsOp ops 17 (some 16) (.alloc 31)
 o18:IsOp ops 18 none (.store 31 (.tmp 16) (.tmp 88))
 rd:RdF .any ops
def InF (B:Nat) (w8:World) (A:Act) (xH xE xI:List Value) (nH nE nI:Nat) (cn cs:Value) (L:Array Bool) (a:Act) (W:World):Prop :=
 ∃ (b2 b5 b6 b9 b10 b13 b16 b17 b18:Bool) (v2 v5 v6 v9 v10 v13 v16 v17:Value) (p:Nat),L=tabF b2 b5 b6 b9 b10 b13 b16 b17 b18∧okF b2 b5 b6 b9 b10 b13 b16 b17 b18=true∧a=actF A v2 v5 v6 v9 v10 v13 v16 v17 ∧
  (b17=true→v17=.pointer (some ⟨p,0,none⟩))∧(b16=true→v16=.agg #[cn,v5,v9,v13,cs]∧(∃ A' c',v5=.slice A' nH c')∧(∃ A' c',v9=.slice A' nE c')∧(∃ A' c',v13=.slice A' nI c'))∧Below B w8 W ∧
  Slots B W (four (rowSl B 26 xH b2 b5 v2 v5) (rowSl B 2 xE b6 b9 v6 v9) (rowSl B 3 xI b10 b13 v10 v13) (boxSl (if b18 then #[cn,v5,v9,v13,cs] else #[.int .u32 0,.slice none 0 0,.slice none 0 0,.slice none 0 0,.int .i64 0]) 31 b17 p))
theorem Slots.four0 (B:Nat) (W:World) (eU eL eI t:Nat) (xH xE xI:List Value) (v2 v5 v6 v9 v10 v13:Value) (cur:Array Value) (p:Nat):Slots B W (four (rowSl B eU xH false false v2 v5) (rowSl B eL xE false false v6 v9) (rowSl B eI xI false false v10 v13) (boxSl cur t false p)):=by
 have:four (rowSl B eU xH false false v2 v5) (rowSl B eL xE false false v6 v9) (rowSl B eI xI false false v10 v13) (boxSl cur t false p)=fun _=>(Option.none,fun _=>True):=by
  funext i
  match i with
  | 0=>rfl
  | 1=>rfl
  | 2=>rfl
  | 3=>rfl
  | i+4=>rfl
 rw [this]
 exact Slots.none B W
theorem run_empty {P:Program} {o:Oper} {a:Act} {W:World} {K:Act→World→Prop} {Q:Exit→Act→World→Prop} (t e:TypeId) (ho:o.op=.buildSlice t 0 #[]) (i:TypeInfo) (z:Value)
 (ht:P.underlying t=some (.slice e)) (hi:P.info? e=some i) (hz:i.zero=some z)
 (h:K (a.put o.dst (.slice (some ⟨W.heap.size,0,none⟩) 0 0)) (W.alloc (.cells #[] e))):o.wp P a W K Q:=by
 have hr:(Instr.buildSlice t 0 #[]).run P W=.ok (.slice (some ⟨W.heap.size,0,none⟩) 0 0) (W.alloc (.cells #[] e)):=by
  simp [Instr.buildSlice,run_underlying ht,sizeOf,typeInfo,hi,newRow,Instr.fill]
  rw [show Array.range 0=#[] from Array.eq_empty_of_size_eq_zero (by simp)]
  simp
 unfold Oper.wp execOp
 simp only [ho,List.map_toArray,List.map_nil,Sem.run_bind,hr,Result.andThen_ok]
 exact h
theorem not_or_iff (a b:Bool):((!a || b)=true) ↔ (a=true→b=true):=by cases a <;> cases b <;> simp
theorem okF_iff:∀ b2 b5 b6 b9 b10 b13 b16 b17 b18:Bool,okF b2 b5 b6 b9 b10 b13 b16 b17 b18=true ↔ (b5=true→b2=true)∧(b9=true→b5=true∧b6=true)∧(b13=true→b9=true∧b10=true)∧(b16=true→b13=true)∧(b18=true→b16=true∧b17=true):=fun b2 b5 b6 b9 b10 b13 b16 b17 b18=>by
 simp only [okF,Bool.and_eq_true,not_or_iff,and_assoc]
theorem four_but0 (a a' b c d:Sl):∀ j,j ≠ 0→four a' b c d j=four a b c d j
 | 0,h=>absurd rfl h
 | 1,_=>rfl
 | 2,_=>rfl
 | 3,_=>rfl
 | _+4,_=>rfl
theorem four_but1 (a b b' c d:Sl):∀ j,j ≠ 1→four a b' c d j=four a b c d j
 | 0,_=>rfl
 | 1,h=>absurd rfl h
 | 2,_=>rfl
 | 3,_=>rfl
 | _+4,_=>rfl
theorem four_but2 (a b c c' d:Sl):∀ j,j ≠ 2→four a b c' d j=four a b c d j
 | 0,_=>rfl
 | 1,_=>rfl
 | 2,h=>absurd rfl h
 | 3,_=>rfl
 | _+4,_=>rfl
theorem four_but3 (a b c d d':Sl):∀ j,j ≠ 3→four a b c d' j=four a b c d j
 | 0,_=>rfl
 | 1,_=>rfl
 | 2,_=>rfl
 | 3,h=>absurd rfl h
 | _+4,_=>rfl
theorem set_row_grown {w:World} {g:Nat} {cur cells:Array Value} {t:TypeId} (h:Blk w g t cur):Blk (w.setRow g cells) g t cells∧w.grownBy (w.setRow g cells) (some g) :=
 ⟨setRow_heap w g cur cells t _ h,rfl,rfl,rfl,by simp,fun k _ hk=>setRow_other w g k _ (fun e=>hk (by rw [e]))⟩
section
variable {ops:Array Oper} {Q:Exit→Act→World→Prop} {S:World→Prop} {D:Nat→Bool} {A:Act} {w8:World} {xH xE xI:List Value} {n st:Int} {vh ve vi:Value}
set_option maxHeartbeats 1600000 in
set_option maxRecDepth 100000 in
theorem copy_region (hO:CopyOps ops) (hA:88 < A.tmps.size) (e73:A.eval (.tmp 73)=.int .u32 n) (e76:A.eval (.tmp 76)=vh) (e80:A.eval (.tmp 80)=ve) (e84:A.eval (.tmp 84)=vi) (e87:A.eval (.tmp 87)=.int .i64 st)
 (rH:RowIs w8 1 vh xH.length xH) (rE:RowIs w8 1 ve xE.length xE) (rI:RowIs w8 1 vi xI.length xI) (lH:xH.length≤1000) (lE:xE.length≤1000) (lI:xI.length≤1000)
 (hS:∀ W,Below w8.heap.size w8 W→S W) {L0:Array Bool} (hL:L0=tabF false false false false false false false false false)
 (K:∀ (v2 v6 v10:Value) (A5 A9 A13:Option Addr) (c5 c9 c13 p:Nat) (W:World),Below w8.heap.size w8 W→W.ownsRow w8.heap.size 26 1 (.slice A5 xH.length c5) xH.length xH→W.ownsRow w8.heap.size 2 1 (.slice A9 xE.length c9) xE.length xE→W.ownsRow w8.heap.size 3 1 (.slice A13 xI.length c13) xI.length xI →
   Blk W p 31 #[.int .u32 n,.slice A5 xH.length c5,.slice A9 xE.length c9,.slice A13 xI.length c13,.int .i64 st]→w8.heap.size≤p →
   Q .normal (actF A v2 (.slice A5 xH.length c5) v6 (.slice A9 xE.length c9) v10 (.slice A13 xI.length c13) (.agg #[.int .u32 n,.slice A5 xH.length c5,.slice A9 xE.length c9,.slice A13 xI.length c13,.int .i64 st]) (.pointer (some ⟨p,0,none⟩))) W) :
 anyD Tryz.prog .any ops Q S D 9 L0 A w8:=by
 subst hL
 obtain ⟨iU,hi,hz0,hz1,hz2⟩:=info_parts Tryz.infoU
 obtain ⟨iL,ji,jz0,jz1,jz2⟩:=info_parts Tryz.info2
 obtain ⟨iI,ki,kz0,kz1,kz2⟩:=info_parts Tryz.info3
 refine anyD_inv (InF w8.heap.size w8 A xH xE xI xH.length xE.length xI.length (.int .u32 n) (.int .i64 st)) ?_ ?_ 9 _ A w8 (Nat.le_of_ble_eq_true rfl) ?_
 · rintro L a W ⟨b2,b5,b6,b9,b10,b13,b16,b17,b18,v2,v5,v6,v9,v10,v13,v16,v17,p,rfl,hok,rfl,h17,h16,hbW,hsl⟩ hr
   have hall:=(hO.rd _ _ _ _ _ _ _ _ _ hok).2 (by rw [hr]; rfl)
   simp only [Bool.and_eq_true] at hall
   obtain ⟨⟨⟨⟨⟨⟨⟨⟨rfl,rfl⟩,rfl⟩,rfl⟩,rfl⟩,rfl⟩,rfl⟩,rfl⟩,rfl⟩:=hall
   obtain rfl:=h17 rfl
   obtain ⟨rfl,⟨A5,c5,rfl⟩,⟨A9,c9,rfl⟩,⟨A13,c13,rfl⟩⟩:=h16 rfl
   exact K v2 v6 v10 A5 A9 A13 c5 c9 c13 p W hbW (hsl.holds 0) (hsl.holds 1) (hsl.holds 2) (hsl.holds 3) (hsl.lie 3 p rfl).1
 · rintro L a W ⟨b2,b5,b6,b9,b10,b13,b16,b17,b18,v2,v5,v6,v9,v10,v13,v16,v17,p,rfl,hok,rfl,h17,h16,hbW,hsl⟩ i hi'
   have hcan:=(hO.rd _ _ _ _ _ _ _ _ _ hok).1 i hi'
   clear hi'
   have hlt:w8.heap.size≤W.heap.size:=hbW.size
   have hok':=hok
   rw [okF_iff] at hok'
   obtain ⟨k1,k2,k3,k4,k5⟩:=hok'
   unfold canF at hcan
   simp only [Bool.or_eq_true,Bool.and_eq_true,Bool.not_eq_true',beq_iff_eq,or_assoc,and_assoc] at hcan
   rcases hcan with ⟨rfl,rfl⟩ | ⟨rfl,rfl,rfl⟩ | ⟨rfl,rfl⟩ | ⟨rfl,rfl,rfl,rfl⟩ | ⟨rfl,rfl⟩ | ⟨rfl,rfl,rfl,rfl⟩ | ⟨rfl,rfl,rfl⟩ | ⟨rfl,rfl⟩ | ⟨rfl,rfl,rfl,rfl⟩
   · -- op 2
     obtain rfl : b5 = false := by cases b5; · rfl
                                   · cases k1 rfl
     have hb':Below w8.heap.size w8 (W.alloc (.cells #[] 26)):=hbW.alloc hlt _
     refine hO.o2.wp fun o K' hd ho hK=>run_empty _ _ ho iU _ Tryz.underlying27 hi hz0 (hK _ _ ⟨fun _ _=>hS _ hb',true,false,b6,b9,b10,b13,b16,b17,b18,.slice (some ⟨W.heap.size,0,none⟩) 0 0,v5,v6,v9,v10,v13,v16,v17,p,rfl,(okF_iff _ _ _ _ _ _ _ _ _).2 ⟨fun _=>rfl,k2,k3,k4,k5⟩,?_,h17,h16,hb',?_⟩)
     · rw [hd]; exact actF_2 _ _ _ _ _ _ _ _ _ _
     · exact hsl.step 0 (World.grownBy_alloc W _ _) hlt (rowSl_fast _ _ _ _ _ _ _) (own_base (own_zero W 26 1) hlt) (.inr (.inr ⟨rfl,by simp⟩)) (four_but0 _ _ _ _ _)
   · -- op 5
     obtain rfl : b16 = false := by cases b16; · rfl
                                    · cases (k2 (k3 (k4 rfl)).1).1
     have hown:=hsl.holds 0
     refine hO.o5.wp fun o K' hd ho hK=>wp_append_row3 _ _ 27 ho w8.heap.size 26 iU (.int .u32 0) 1 4 Tryz.underlying27 hi hz0 hz1 hz2 rfl (by decide) v2 0 [] (actF_e74 _ _ _ _ _ _ _ _ hA) hown vh xH.length xH ((actF_else _ _ _ _ _ _ _ _ _ (by decide)).trans e76) rH hbW (by unfold maxLen; omega) (by omega) hlt ?_
     intro v' w' ho' hg hblk
     rw [Nat.zero_add,List.nil_append] at ho'
     have hb':=hbW.grown hg hlt (fun k hk=>(hown.lt k hk).1)
     refine hK _ _ ⟨fun _ _=>hS _ hb',true,true,b6,b9,b10,b13,false,b17,b18,v2,v',v6,v9,v10,v13,v16,v17,p,rfl,(okF_iff _ _ _ _ _ _ _ _ _).2 ⟨fun _=>rfl,fun h=>⟨rfl,(k2 h).2⟩,k3,fun h=>(by cases h),k5⟩,?_,h17,fun h=>(by cases h),hb',?_⟩
     · rw [hd]; exact actF_5 _ _ _ _ _ _ _ _ _ _
     · have hb18:b18=false:=by
        cases b18
        · rfl
        · cases (k5 rfl).1
       subst hb18
       exact hsl.step 0 hg hlt (rowSl_fast _ _ _ _ _ _ _) ho' (.inr (hblk.imp id fun h=>⟨h,(ho'.lt _ h).2⟩)) (four_but0 _ _ _ _ _)
   · -- op 6
     obtain rfl : b9 = false := by cases b9; · rfl
                                   · cases (k2 rfl).2
     have hb':Below w8.heap.size w8 (W.alloc (.cells #[] 2)):=hbW.alloc hlt _
     refine hO.o6.wp fun o K' hd ho hK=>run_empty _ _ ho iL _ Tryz.underlying28 ji jz0 (hK _ _ ⟨fun _ _=>hS _ hb',b2,b5,true,false,b10,b13,b16,b17,b18,v2,v5,.slice (some ⟨W.heap.size,0,none⟩) 0 0,v9,v10,v13,v16,v17,p,rfl,(okF_iff _ _ _ _ _ _ _ _ _).2 ⟨k1,fun h=>(by cases h),k3,k4,k5⟩,?_,h17,h16,hb',?_⟩)
     · rw [hd]; exact actF_6 _ _ _ _ _ _ _ _ _ _
     · exact hsl.step 1 (World.grownBy_alloc W _ _) hlt (rowSl_fast _ _ _ _ _ _ _) (own_base (own_zero W 2 1) hlt) (.inr (.inr ⟨rfl,by simp⟩)) (four_but1 _ _ _ _ _)
   · -- op 9
     obtain rfl : b16 = false := by cases b16; · rfl
                                    · cases (k3 (k4 rfl)).1
     have hown:=hsl.holds 1
     refine hO.o9.wp fun o K' hd ho hK=>wp_append_row3 _ _ 28 ho w8.heap.size 2 iL (.int .i64 0) 1 8 Tryz.underlying28 ji jz0 jz1 jz2 rfl (by decide) v6 0 [] (actF_e78 _ _ _ _ _ _ _ _ hA) hown ve xE.length xE ((actF_else _ _ _ _ _ _ _ _ _ (by decide)).trans e80) rE hbW (by unfold maxLen; omega) (by omega) hlt ?_
     intro v' w' ho' hg hblk
     rw [Nat.zero_add,List.nil_append] at ho'
     have hb':=hbW.grown hg hlt (fun k hk=>(hown.lt k hk).1)
     refine hK _ _ ⟨fun _ _=>hS _ hb',b2,true,true,true,b10,b13,false,b17,b18,v2,v5,v6,v',v10,v13,v16,v17,p,rfl,(okF_iff _ _ _ _ _ _ _ _ _).2 ⟨k1,fun _=>⟨rfl,rfl⟩,fun h=>⟨rfl,(k3 h).2⟩,fun h=>(by cases h),k5⟩,?_,h17,fun h=>(by cases h),hb',?_⟩
     · rw [hd]; exact actF_9 _ _ _ _ _ _ _ _ _ _
     · have hb18:b18=false:=by
        cases b18
        · rfl
        · cases (k5 rfl).1
       subst hb18
       exact hsl.step 1 hg hlt (rowSl_fast _ _ _ _ _ _ _) ho' (.inr (hblk.imp id fun h=>⟨h,(ho'.lt _ h).2⟩)) (four_but1 _ _ _ _ _)
   · -- op 10
     obtain rfl : b13 = false := by cases b13; · rfl
                                    · cases (k3 rfl).2
     have hb':Below w8.heap.size w8 (W.alloc (.cells #[] 3)):=hbW.alloc hlt _
     refine hO.o10.wp fun o K' hd ho hK=>run_empty _ _ ho iI _ Tryz.underlying29 ki kz0 (hK _ _ ⟨fun _ _=>hS _ hb',b2,b5,b6,b9,true,false,b16,b17,b18,v2,v5,v6,v9,.slice (some ⟨W.heap.size,0,none⟩) 0 0,v13,v16,v17,p,rfl,(okF_iff _ _ _ _ _ _ _ _ _).2 ⟨k1,k2,fun h=>(by cases h),k4,k5⟩,?_,h17,h16,hb',?_⟩)
     · rw [hd]; exact actF_10 _ _ _ _ _ _ _ _ _ _
     · exact hsl.step 2 (World.grownBy_alloc W _ _) hlt (rowSl_fast _ _ _ _ _ _ _) (own_base (own_zero W 3 1) hlt) (.inr (.inr ⟨rfl,by simp⟩)) (four_but2 _ _ _ _ _)
   · -- op 13
     obtain rfl : b16 = false := by cases b16; · rfl
                                    · cases k4 rfl
     have hown:=hsl.holds 2
     refine hO.o13.wp fun o K' hd ho hK=>wp_append_row3 _ _ 29 ho w8.heap.size 3 iI (.int .i64 0) 1 8 Tryz.underlying29 ki kz0 kz1 kz2 rfl (by decide) v10 0 [] (actF_e82 _ _ _ _ _ _ _ _ hA) hown vi xI.length xI ((actF_else _ _ _ _ _ _ _ _ _ (by decide)).trans e84) rI hbW (by unfold maxLen; omega) (by omega) hlt ?_
     intro v' w' ho' hg hblk
     rw [Nat.zero_add,List.nil_append] at ho'
     have hb':=hbW.grown hg hlt (fun k hk=>(hown.lt k hk).1)
     refine hK _ _ ⟨fun _ _=>hS _ hb',b2,b5,b6,true,true,true,false,b17,b18,v2,v5,v6,v9,v10,v',v16,v17,p,rfl,(okF_iff _ _ _ _ _ _ _ _ _).2 ⟨k1,k2,fun _=>⟨rfl,rfl⟩,fun h=>(by cases h),k5⟩,?_,h17,fun h=>(by cases h),hb',?_⟩
     · rw [hd]; exact actF_13 _ _ _ _ _ _ _ _ _ _
     · have hb18:b18=false:=by
        cases b18
        · rfl
        · cases (k5 rfl).1
       subst hb18
       exact hsl.step 2 hg hlt (rowSl_fast _ _ _ _ _ _ _) ho' (.inr (hblk.imp id fun h=>⟨h,(ho'.lt _ h).2⟩)) (four_but2 _ _ _ _ _)
   · -- op 16
     obtain ⟨rfl,rfl⟩:=k3 rfl
     obtain ⟨rfl,rfl⟩:=k2 rfl
     obtain rfl:=k1 rfl
     obtain rfl : b18 = false := by cases b18; · rfl
                                    · cases (k5 rfl).1
     obtain ⟨A5,c5,hv5⟩:=own_slice (hsl.holds 0)
     obtain ⟨A9,c9,hv9⟩:=own_slice (hsl.holds 1)
     obtain ⟨A13,c13,hv13⟩:=own_slice (hsl.holds 2)
     subst hv5 hv9 hv13
     refine hO.o16.wp fun o K' hd ho hK=>?_
     have hrun:(execOp (actF A v2 (.slice A5 xH.length c5) v6 (.slice A9 xE.length c9) v10 (.slice A13 xI.length c13) v16 v17).eval o).run Tryz.prog W=.ok (.value (.agg #[.int .u32 n,.slice A5 xH.length c5,.slice A9 xE.length c9,.slice A13 xI.length c13,.int .i64 st])) W:=by
      unfold execOp
      simp only [ho,List.map_toArray,List.map_cons,List.map_nil,actF_e77 _ _ _ _ _ _ _ _ hA,actF_e81 _ _ _ _ _ _ _ _ hA,actF_e85 _ _ _ _ _ _ _ _ hA,(actF_else _ _ _ _ _ _ _ _ _ (show (73:Tmp) ≠ 74∧_ by decide)).trans e73,(actF_else _ _ _ _ _ _ _ _ _ (show (87:Tmp) ≠ 74∧_ by decide)).trans e87]
      rw [Sem.run_bind,run_build W 31 _ #[.int .u32 n,.slice A5 xH.length c5,.slice A9 xE.length c9,.slice A13 xI.length c13,.int .i64 st] (by rfl)]
      rfl
     unfold Oper.wp
     rw [hrun]
     refine hK _ _ ⟨fun _ h=>h,true,true,true,true,true,true,true,b17,false,v2,.slice A5 xH.length c5,v6,.slice A9 xE.length c9,v10,.slice A13 xI.length c13,.agg #[.int .u32 n,.slice A5 xH.length c5,.slice A9 xE.length c9,.slice A13 xI.length c13,.int .i64 st],v17,p,rfl,(okF_iff _ _ _ _ _ _ _ _ _).2 ⟨fun _=>rfl,fun _=>⟨rfl,rfl⟩,fun _=>⟨rfl,rfl⟩,fun _=>rfl,fun h=>(by cases h)⟩,?_,h17,fun _=>⟨rfl,⟨_,_,rfl⟩,⟨_,_,rfl⟩,⟨_,_,rfl⟩⟩,hbW,hsl⟩
     rw [hd]; exact actF_16 _ _ _ _ _ _ _ _ _ _
   · -- op 17
     obtain rfl : b18 = false := by cases b18; · rfl
                                    · cases (k5 rfl).2
     have hb':Below w8.heap.size w8 (W.alloc (.cells #[.int .u32 0,.slice none 0 0,.slice none 0 0,.slice none 0 0,.int .i64 0] 31)):=hbW.alloc hlt _
     refine hO.o17.wp fun o K' hd ho hK=>?_
     have hrun:(execOp (actF A v2 v5 v6 v9 v10 v13 v16 v17).eval o).run Tryz.prog W=.ok (.value (.pointer (some ⟨W.heap.size,0,none⟩))) (W.alloc (.cells #[.int .u32 0,.slice none 0 0,.slice none 0 0,.slice none 0 0,.int .i64 0] 31)):=by
      unfold execOp
      simp only [ho]
      go_simp
     unfold Oper.wp
     rw [hrun]
     refine hK _ _ ⟨fun _ _=>hS _ hb',b2,b5,b6,b9,b10,b13,b16,true,false,v2,v5,v6,v9,v10,v13,v16,.pointer (some ⟨W.heap.size,0,none⟩),W.heap.size,rfl,(okF_iff _ _ _ _ _ _ _ _ _).2 ⟨k1,k2,k3,k4,fun h=>(by cases h)⟩,?_,fun _=>rfl,h16,hb',?_⟩
     · rw [hd]; exact actF_17 _ _ _ _ _ _ _ _ _ _
     · exact hsl.step 3 (World.grownBy_alloc W _ _) hlt (boxSl_quick _ _ _ _) (Blk.new W 31 _) (.inr (.inr ⟨rfl,by simp⟩)) (four_but3 _ _ _ _ _)
   · -- op 18
     obtain ⟨rfl,rfl⟩:=k3 (k4 rfl)
     obtain ⟨rfl,rfl⟩:=k2 rfl
     obtain rfl:=k1 rfl
     obtain rfl:=k4 rfl
     obtain rfl:=h17 rfl
     obtain ⟨rfl,⟨A5,c5,rfl⟩,⟨A9,c9,rfl⟩,⟨A13,c13,rfl⟩⟩:=h16 rfl
     have hbox:Blk W p 31 #[.int .u32 0,.slice none 0 0,.slice none 0 0,.slice none 0 0,.int .i64 0]:=hsl.holds 3
     obtain ⟨hn1,hn2⟩:=set_row_grown (cells:=#[.int .u32 n,.slice A5 xH.length c5,.slice A9 xE.length c9,.slice A13 xI.length c13,.int .i64 st]) hbox
     have hb':=hbW.grown hn2 hlt (fun k hk=>by injection hk with hk; subst hk; exact (hsl.lie 3 p rfl).1)
     refine hO.o18.wp fun o K' hd ho hK=>wp_store_row _ _ _ ho p #[.int .u32 n,.slice A5 xH.length c5,.slice A9 xE.length c9,.slice A13 xI.length c13,.int .i64 st] (actF_e16 _ _ _ _ _ _ _ _ hA) (actF_e88 _ _ _ _ _ _ _ _ hA) 31 _ hbox (by kernel_rfl) rfl (by simp [Value.oneCell']) (hK _ _ ⟨fun _ _=>hS _ hb',true,true,true,true,true,true,true,true,true,v2,.slice A5 xH.length c5,v6,.slice A9 xE.length c9,v10,.slice A13 xI.length c13,.agg #[.int .u32 n,.slice A5 xH.length c5,.slice A9 xE.length c9,.slice A13 xI.length c13,.int .i64 st],.pointer (some ⟨p,0,none⟩),p,rfl,(okF_iff _ _ _ _ _ _ _ _ _).2 ⟨fun _=>rfl,fun _=>⟨rfl,rfl⟩,fun _=>⟨rfl,rfl⟩,fun _=>rfl,fun _=>⟨rfl,rfl⟩⟩,?_,fun _=>rfl,fun _=>⟨rfl,⟨_,_,rfl⟩,⟨_,_,rfl⟩,⟨_,_,rfl⟩⟩,hb',?_⟩)
     · rw [hd]; exact put_none
     · exact hsl.step 3 hn2 hlt (boxSl_quick _ _ _ _) hn1 (.inr (.inl rfl)) (four_but3 _ _ _ _ _)
 · exact ⟨false,false,false,false,false,false,false,false,false,_,_,_,_,_,_,_,_,0,rfl,rfl,actF_self A,fun h=>(by cases h),fun h=>(by cases h),Below.refl _ _,Slots.four0 _ _ _ _ _ _ _ _ _ _ _ _ _ _ _ _ _⟩
end
end Go.Proofs.YtgofpbdbeegoeaaGreatDoor
