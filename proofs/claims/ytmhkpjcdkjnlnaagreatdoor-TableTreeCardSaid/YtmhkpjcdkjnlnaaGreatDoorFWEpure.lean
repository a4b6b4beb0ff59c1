/- Plain functions on postfixes: what they give and what they are worth, as a stack of values; which mishap is the first; how types and values go together. No program in this text. -/
import Derived.Test.YtmhkpjcdkjnlnaaGreatDoorFWTmay
import Derived.Test.YtmhkpjcdkjnlnaaGreatDoorFWNbase
namespace Go.Proofs.YtmhkpjcdkjnlnaaGreatDoor
open Go.RowKit
set_option linter.unusedVariables false

inductive Vl where
 | ok (k n:Int)
 | bad (c:Int)
def Vl.code:Vl→Int
 | .ok _ _=>0
 | .bad c=>c
def Vl.kind:Vl→Int
 | .ok k _=>k
 | .bad _=>0
def Vl.num:Vl→Int
 | .ok _ n=>n
 | .bad _=>0
structure Md where
 ty:Bool
 env:List Int
 vars:Int
def Md.lim (m:Md):Int:=if m.ty=true then m.vars else (m.env.length:Int)
def truN (b:Bool):Int:=if b=true then 1 else 0
def tru (b:Bool):Vl:=.ok 2 (truN b)
def leafV (m:Md) (t:Tk):Vl :=
 if t.1=1 then .ok 1 t.2.1
 else if t.1=2 then (if t.2.1 < m.lim then .ok 1 (if m.ty=true then 0 else m.env.getD t.2.1.toNat 0) else .bad 4)
 else tru (decide (t.1=15))
def unV (t:Tk):Vl→Vl
 | .bad c=>.bad c
 | .ok k n=>if t.1=14∧k=2 then tru (decide (n=0)) else if t.1=19∧k=1 then .ok 1 (wrap64 (-n)) else .bad 8
def twoV (kd ak an bk bn:Int):Vl :=
 if ak ≠ bk then .bad 8
 else if kd=10 then tru (decide (an=bn))
 else if kd=11 then tru (!decide (an=bn))
 else if ak=2 then
  if kd=12 then tru (decide (an=1) && decide (bn=1))
  else if kd=13 then tru (decide (an=1) || decide (bn=1))
  else .bad 8
 else if kd=3 then .ok 1 (wrap64 (an+bn))
 else if kd=4 then .ok 1 (wrap64 (an - bn))
 else if kd=5 then .ok 1 (wrap64 (an * bn))
 else if kd=6 then (if bn=0 then .bad 9 else .ok 1 (wrap64 (an.tdiv bn)))
 else if kd=7 then (if bn=0 then .bad 9 else .ok 1 (an.tmod bn))
 else if kd=8 then tru (decide (an < bn))
 else if kd=9 then tru (decide (an≤bn))
 else .bad 8
def binV (ty:Bool) (t:Tk):Vl→Vl→Vl
 | .bad c,_=>.bad c
 | .ok _ _,.bad c=>.bad c
 | .ok ak an,.ok bk bn=>if ty=true∧(twoV t.1 ak an bk bn).code=9 then .ok 1 0 else twoV t.1 ak an bk bn
def vstep (m:Md) (t:Tk) (S:List Vl):List Vl :=
 if tak t=0 then leafV m t :: S
 else if tak t=1 then
  match S with
  | x :: S'=>unV t x :: S'
  | []=>[]
 else
  match S with
  | b :: a :: S'=>binV m.ty t a b :: S'
  | _=>[]
def vrun (m:Md):List Tk→List Vl→List Vl
 | [],S=>S
 | t :: r,S=>vrun m r (vstep m t S)
theorem vstep0 {m:Md} {t:Tk} (S:List Vl) (h:tak t=0):vstep m t S=leafV m t :: S:=by unfold vstep; rw [if_pos h]
theorem vstep1 {m:Md} {t:Tk} (x:Vl) (S:List Vl) (h:tak t=1):vstep m t (x :: S)=unV t x :: S:=by unfold vstep; rw [if_neg (by omega),if_pos h]
theorem vstep2 {m:Md} {t:Tk} (b a:Vl) (S:List Vl) (h:tak t=2):vstep m t (b :: a :: S)=binV m.ty t a b :: S:=by unfold vstep; rw [if_neg (by omega),if_neg (by omega)]
theorem vrun_append (m:Md):∀ (a b:List Tk) (S:List Vl),vrun m (a ++ b) S=vrun m b (vrun m a S)
 | [],_,_=>rfl
 | t :: a,b,S=>vrun_append m a b (vstep m t S)
def vs (m:Md) (ts:List Tk) (i:Nat):List Vl:=vrun m (ts.take i) []
theorem vs_succ (m:Md) {ts:List Tk} {i:Nat} (h:i < ts.length):vs m ts (i+1)=vstep m (ts.getD i (0,0,0)) (vs m ts i):=by
 unfold vs
 rw [List.take_add_one,List.getElem?_eq_getElem h,vrun_append]
 simp [List.getD,List.getElem?_eq_getElem h,vrun]
theorem vstep_len {m:Md} {t:Tk} {S:List Vl} (h0:0≤tak t) (h:tak t≤S.length):((vstep m t S).length:Int)=S.length - tak t+1:=by
 rcases tak_cases t with c | c | c | c
 · omega
 · rw [vstep0 _ c,c]; simp
 · rcases S with _ | ⟨x,S'⟩
   · rw [c] at h; simp at h
   · rw [vstep1 _ _ c,c]; simp
 · rcases S with _ | ⟨x,_ | ⟨y,S'⟩⟩
   · rw [c] at h; simp at h
   · rw [c] at h; simp at h
   · rw [vstep2 _ _ _ c,c]; simp; omega
theorem vs_len (m:Md) (ts:List Tk):∀ i,i≤ts.length→Valid ts i→(vs m ts i).length=(stk ts i).length
 | 0,_,_=>rfl
 | i+1,hi,hv=>by
  have ih:=vs_len m ts i (by omega) (hv.mono (by omega))
  have h1:=valid_len hv
  have h2:=vstep_len (m:=m) (S:=vs m ts i) (hv i (by omega)).1 (by rw [ih]; exact (hv i (by omega)).2)
  rw [← vs_succ m (by omega),ih] at h2
  omega

def fb:List Vl→Option Int
 | []=>none
 | x :: S=>match fb S with
  | some c=>some c
  | none=>match x with
   | .bad c=>some c
   | .ok _ _=>none
theorem fb_cons (x:Vl) (S:List Vl):fb (x :: S)=(fb S).orElse fun _=>match x with | .bad c=>some c | .ok _ _=>none:=by
 show (match fb S with | some c=>some c | none=>match x with | .bad c=>some c | .ok _ _=>none)=_
 cases fb S <;> rfl
theorem fb_step {m:Md} {t:Tk} {S:List Vl} {c:Int} (h0:0≤tak t) (h:tak t≤S.length) (hb:fb S=some c):fb (vstep m t S)=some c:=by
 rcases tak_cases t with e | e | e | e
 · omega
 · rw [vstep0 _ e,fb_cons,hb]; rfl
 · rcases S with _ | ⟨x,S'⟩
   · cases hb
   · rw [vstep1 _ _ e]
     rw [fb_cons] at hb ⊢
     cases hS:fb S' with
     | some d=>rw [hS] at hb; exact hb
     | none =>
      rw [hS] at hb
      cases x with
      | bad d=>exact hb
      | ok k n=>cases hb
 · rcases S with _ | ⟨b,_ | ⟨a,S'⟩⟩
   · cases hb
   · rw [e] at h; simp at h
   · rw [vstep2 _ _ _ e]
     rw [fb_cons,fb_cons] at hb
     rw [fb_cons]
     cases hS:fb S' with
     | some d=>rw [hS] at hb; exact hb
     | none =>
      rw [hS] at hb
      cases a with
      | bad d=>exact hb
      | ok k n =>
       cases b with
       | bad d=>exact hb
       | ok k' n'=>cases hb
theorem fb_run (m:Md) {ts:List Tk} {i:Nat} {c:Int} (hb:fb (vs m ts i)=some c):∀ n,i+n≤ts.length→Valid ts (i+n)→fb (vs m ts (i+n))=some c
 | 0,_,_=>hb
 | n+1,hl,hv=>by
  have ih:=fb_run m hb n (by omega) (hv.mono (by omega))
  rw [show i+(n+1)=i+n+1 from rfl,vs_succ m (by omega)]
  exact fb_step (hv (i+n) (by omega)).1 (by rw [vs_len m ts _ (by omega) (hv.mono (by omega))]; exact (hv (i+n) (by omega)).2) ih
theorem vs_top (m:Md) {ts:List Tk} (hv:Valid ts ts.length) (h1:(stk ts ts.length).length=1):∃ v,vs m ts ts.length=[v]:=by
 have hl:=vs_len m ts ts.length (Nat.le_refl _) hv
 rw [h1] at hl
 exact List.length_eq_one_iff.1 hl
theorem bad_end (m:Md) {ts:List Tk} {i:Nat} {c:Int} {v:Vl} {S:List Vl} (hv:Valid ts ts.length) (hi:i≤ts.length) (htop:vs m ts ts.length=[v]) (hS:vs m ts i=.bad c :: S) (hok:fb S=none):v=.bad c:=by
 have h:=fb_run m (c:=c) (ts:=ts) (i:=i) (by rw [hS,fb_cons,hok]; rfl) (ts.length - i) (by omega) (by rw [show i+(ts.length - i)=ts.length by omega]; exact hv)
 rw [show i+(ts.length - i)=ts.length by omega,htop,fb_cons] at h
 cases v with
 | ok k n=>cases h
 | bad d=>injection h with h; rw [h]

theorem tkk_zero {t:Tk} (h:tak t=0):t.2.2=0∧0≤t.2.1∧(t.1=1 ∨ (t.1=2∧t.2.1 < 26) ∨ (t.1=15∧t.2.1=0) ∨ (t.1=16∧t.2.1=0)):=by
 obtain ⟨k,n,a⟩:=t
 unfold tak at h
 simp only at h ⊢
 split at h; · omega
 split at h; · omega
 split at h; · omega
 split at h; · omega
 split at h; · omega
 split at h <;> omega
theorem tkk_one {t:Tk} (h:tak t=1):t=(14,0,0) ∨ t=(19,0,0):=by
 obtain ⟨k,n,a⟩:=t
 unfold tak at h
 simp only at h
 split at h; · omega
 split at h; · omega
 split at h; · omega
 split at h; · omega
 split at h
 · rename_i h1 h2 h3 h4 h5
   obtain rfl:a=0:=by omega
   obtain rfl:n=0:=by omega
   rcases h5 with rfl | rfl
   · exact .inl rfl
   · exact .inr rfl
 · split at h <;> omega
theorem lvl_pos {k:Int} (h:lvl k ≠ 0):3≤k∧k≤13:=by
 unfold lvl at h
 split at h; · omega
 split at h; · omega
 split at h; · omega
 split at h; · omega
 split at h
 · omega
 · exact absurd rfl h
theorem tkk_two {t:Tk} (h:tak t=2):∃ k,t=(k,0,0)∧3≤k∧k≤13:=by
 obtain ⟨k,n,a⟩:=t
 unfold tak at h
 simp only at h
 split at h; · omega
 split at h; · omega
 split at h; · omega
 split at h; · omega
 split at h; · omega
 split at h
 · rename_i h1 h2 h3 h4 h5 h6
   obtain rfl:a=0:=by omega
   obtain rfl:n=0:=by omega
   exact ⟨k,rfl,lvl_pos h6⟩
 · omega

def Good:Vl→Prop
 | .bad c=>c=4 ∨ c=8 ∨ c=9
 | .ok k n=>(k=1∧F64 n) ∨ (k=2∧(n=0 ∨ n=1))
theorem truN_01 (b:Bool):truN b=0 ∨ truN b=1:=by cases b <;> simp [truN]
theorem tru_good (b:Bool):Good (tru b):=.inr ⟨rfl,truN_01 b⟩
theorem wrap_f64 (x:Int):F64 (wrap64 x):=by unfold F64 wrap64; omega
theorem tmod_f64 {a:Int} (b:Int) (ha:F64 a):F64 (a.tmod b):=by
 have h:=Int.natAbs_tmod a b
 have h2:a.natAbs % b.natAbs≤a.natAbs:=Nat.mod_le _ _
 have p:=rest_pos a b
 have n:=rest_neg a b
 unfold F64 at *
 omega
theorem leaf_good (m:Md) {t:Tk} (h:tak t=0) (hn:t.2.1≤9223372036854775807) (he:∀ x ∈ m.env,F64 x):Good (leafV m t):=by
 obtain ⟨_,h0,hk⟩:=tkk_zero h
 unfold leafV
 by_cases c1:t.1=1
 · rw [if_pos c1]; exact .inl ⟨rfl,by unfold F64; omega⟩
 · rw [if_neg c1]
   by_cases c2:t.1=2
   · rw [if_pos c2]
     by_cases c3:t.2.1 < m.lim
     · rw [if_pos c3]
       refine .inl ⟨rfl,?_⟩
       by_cases c4:m.ty=true
       · rw [if_pos c4]; unfold F64; omega
       · rw [if_neg c4]
         unfold Md.lim at c3
         rw [if_neg c4] at c3
         have hl:t.2.1.toNat < m.env.length:=by omega
         rw [List.getD,List.getElem?_eq_getElem hl]
         exact he _ (List.getElem_mem hl)
     · rw [if_neg c3]; exact .inl rfl
   · rw [if_neg c2]; exact tru_good _
theorem unV_ok (t:Tk) (k n:Int):unV t (.ok k n)=if t.1=14∧k=2 then tru (decide (n=0)) else if t.1=19∧k=1 then .ok 1 (wrap64 (-n)) else .bad 8:=rfl
theorem binV_ok (ty:Bool) (t:Tk) (ak an bk bn:Int):binV ty t (.ok ak an) (.ok bk bn)=if ty=true∧(twoV t.1 ak an bk bn).code=9 then .ok 1 0 else twoV t.1 ak an bk bn:=rfl
theorem un_good {t:Tk} {x:Vl} (hx:Good x):Good (unV t x):=by
 cases x with
 | bad c=>exact hx
 | ok k n =>
  rw [unV_ok]
  split
  · exact tru_good _
  · split
    · exact .inl ⟨rfl,wrap_f64 _⟩
    · exact .inr (.inl rfl)
theorem two_good {kd ak an bk bn:Int} (ha:Good (.ok ak an)) (hb:Good (.ok bk bn)):Good (twoV kd ak an bk bn):=by
 unfold twoV
 split; · exact .inr (.inl rfl)
 split; · exact tru_good _
 split; · exact tru_good _
 split
 · split; · exact tru_good _
   split; · exact tru_good _
   exact .inr (.inl rfl)
 · rename_i h1 _ _ h2
   have fa:F64 an:=by
    rcases ha with ⟨_,h⟩ | ⟨h,_⟩
    · exact h
    · exact absurd h h2
   split; · exact .inl ⟨rfl,wrap_f64 _⟩
   split; · exact .inl ⟨rfl,wrap_f64 _⟩
   split; · exact .inl ⟨rfl,wrap_f64 _⟩
   split
   · split
     · exact .inr (.inr rfl)
     · exact .inl ⟨rfl,wrap_f64 _⟩
   split
   · split
     · exact .inr (.inr rfl)
     · exact .inl ⟨rfl,tmod_f64 _ fa⟩
   split; · exact tru_good _
   split; · exact tru_good _
   exact .inr (.inl rfl)
theorem bin_good {ty:Bool} {t:Tk} {a b:Vl} (ha:Good a) (hb:Good b):Good (binV ty t a b):=by
 cases a with
 | bad c=>exact ha
 | ok ak an =>
  cases b with
  | bad c=>exact hb
  | ok bk bn =>
   rw [binV_ok]
   split
   · exact .inl ⟨rfl,by unfold F64; omega⟩
   · exact two_good ha hb
def AllGood (S:List Vl):Prop:=∀ x ∈ S,Good x
theorem step_good (m:Md) {t:Tk} {S:List Vl} (h0:0≤tak t) (h:tak t≤S.length) (hn:t.2.1≤9223372036854775807) (he:∀ x ∈ m.env,F64 x) (hS:AllGood S):AllGood (vstep m t S):=by
 rcases tak_cases t with c | c | c | c
 · omega
 · rw [vstep0 _ c]
   intro x hx
   rcases List.mem_cons.1 hx with rfl | hx
   · exact leaf_good m c hn he
   · exact hS x hx
 · rcases S with _ | ⟨x,S'⟩
   · rw [c] at h; simp at h
   · rw [vstep1 _ _ c]
     intro y hy
     rcases List.mem_cons.1 hy with rfl | hy
     · exact un_good (hS x (by simp))
     · exact hS y (by simp [hy])
 · rcases S with _ | ⟨x,_ | ⟨y,S'⟩⟩
   · rw [c] at h; simp at h
   · rw [c] at h; simp at h
   · rw [vstep2 _ _ _ c]
     intro z hz
     rcases List.mem_cons.1 hz with rfl | hz
     · exact bin_good (hS y (by simp)) (hS x (by simp))
     · exact hS z (by simp [hz])
theorem vs_good (m:Md) {ts:List Tk} (hn:∀ t ∈ ts,t.2.1≤9223372036854775807) (he:∀ x ∈ m.env,F64 x):∀ i,i≤ts.length→Valid ts i→AllGood (vs m ts i)
 | 0,_,_=>fun x hx=>by cases hx
 | i+1,hi,hv=>by
  have ih:=vs_good m hn he i (by omega) (hv.mono (by omega))
  rw [vs_succ m (by omega)]
  refine step_good m (hv i (by omega)).1 (by rw [vs_len m ts _ (by omega) (hv.mono (by omega))]; exact (hv i (by omega)).2) ?_ he ih
  rw [List.getD,List.getElem?_eq_getElem (show i < ts.length by omega)]
  exact hn _ (List.getElem_mem _)

def rul (k:Int):Int × Int × Int :=
 if k=15 ∨ k=16 then (0,0,2)
 else if 3≤k∧k≤7 then (2,1,1)
 else if k=19 then (1,1,1)
 else if k=8 ∨ k=9 then (2,1,2)
 else if k=10 ∨ k=11 then (2,0,2)
 else if k=12 ∨ k=13 then (2,2,2)
 else if k=14 then (1,2,2)
 else (0,0,1)
def tks:Int→List Int→Bool
 | _,[]=>true
 | kk,k :: r=>if kk=0 then tks k r else if k=kk then tks kk r else false
theorem rul_leaf {t:Tk} (h:tak t=0):(rul t.1).1=0∧(rul t.1).2.1=0:=by
 obtain ⟨_,_,h | ⟨h,_⟩ | ⟨h,_⟩ | ⟨h,_⟩⟩:=tkk_zero h <;> rw [h] <;> decide
theorem leaf_none {m:Md} {t:Tk} (h1:t.1=2) (h2:m.lim≤t.2.1):leafV m t=.bad 4:=by
 unfold leafV
 rw [if_neg (by omega),if_pos h1,if_neg (by omega)]
theorem leaf_some {m:Md} {t:Tk} (h:tak t=0) (h1:¬ (t.1=2∧m.lim≤t.2.1)):∃ n,leafV m t=.ok (rul t.1).2.2 n:=by
 obtain ⟨_,_,c | ⟨c,_⟩ | ⟨c,_⟩ | ⟨c,_⟩⟩:=tkk_zero h
 · exact ⟨t.2.1,by unfold leafV; rw [if_pos c,c]; rfl⟩
 · refine ⟨if m.ty=true then 0 else m.env.getD t.2.1.toNat 0,?_⟩
   unfold leafV
   rw [if_neg (by omega),if_pos c,if_pos (by omega),c]
   rfl
 · refine ⟨truN (decide (t.1=15)),?_⟩
   unfold leafV tru
   rw [if_neg (by omega),if_neg (by omega),c]
   rfl
 · refine ⟨truN (decide (t.1=15)),?_⟩
   unfold leafV tru
   rw [if_neg (by omega),if_neg (by omega),c]
   rfl
theorem un_rul {t:Tk} (h:tak t=1):(rul t.1).1=1:=by rcases tkk_one h with rfl | rfl <;> decide
theorem un_step {t:Tk} {k n:Int} (h:tak t=1) (hk:k=1 ∨ k=2) :
 (tks (rul t.1).2.1 [k]=true→∃ n',unV t (.ok k n)=.ok (rul t.1).2.2 n')∧(tks (rul t.1).2.1 [k]=false→unV t (.ok k n)=.bad 8):=by
 rcases tkk_one h with rfl | rfl <;> rcases hk with rfl | rfl
 · exact ⟨fun h=>absurd h (by decide),fun _=>by simp [unV]⟩
 · exact ⟨fun _=>⟨truN (decide (n=0)),by simp [unV,tru]; decide⟩,fun h=>absurd h (by decide)⟩
 · exact ⟨fun _=>⟨wrap64 (-n),by simp [unV]; decide⟩,fun h=>absurd h (by decide)⟩
 · exact ⟨fun h=>absurd h (by decide),fun _=>by simp [unV]⟩
theorem bin_rul {t:Tk} (h:tak t=2):(rul t.1).1=2:=by
 obtain ⟨k,rfl,h3,h13⟩:=tkk_two h
 obtain rfl | rfl | rfl | rfl | rfl | rfl | rfl | rfl | rfl | rfl | rfl:k=3 ∨ k=4 ∨ k=5 ∨ k=6 ∨ k=7 ∨ k=8 ∨ k=9 ∨ k=10 ∨ k=11 ∨ k=12 ∨ k=13:=by omega
 all_goals decide
theorem bin_step {ty:Bool} {t:Tk} {ak an bk bn:Int} (h:tak t=2) (ha:ak=1 ∨ ak=2) (hb:bk=1 ∨ bk=2) :
 (tks (rul t.1).2.1 [ak,bk]=true→(∃ n,binV ty t (.ok ak an) (.ok bk bn)=.ok (rul t.1).2.2 n) ∨ (ty=false∧binV ty t (.ok ak an) (.ok bk bn)=.bad 9))
   ∧ (tks (rul t.1).2.1 [ak,bk]=false→binV ty t (.ok ak an) (.ok bk bn)=.bad 8):=by
 obtain ⟨k,rfl,h3,h13⟩:=tkk_two h
 obtain rfl | rfl | rfl | rfl | rfl | rfl | rfl | rfl | rfl | rfl | rfl:k=3 ∨ k=4 ∨ k=5 ∨ k=6 ∨ k=7 ∨ k=8 ∨ k=9 ∨ k=10 ∨ k=11 ∨ k=12 ∨ k=13:=by omega
 all_goals
  rcases ha with rfl | rfl <;> rcases hb with rfl | rfl
  all_goals
   by_cases hz:bn=0 <;> cases ty <;> simp [tks,rul,binV,twoV,Vl.code,tru,hz]
end Go.Proofs.YtmhkpjcdkjnlnaaGreatDoor
