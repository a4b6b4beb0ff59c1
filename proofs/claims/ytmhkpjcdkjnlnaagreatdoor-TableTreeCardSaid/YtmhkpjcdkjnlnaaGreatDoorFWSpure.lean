/- Plain functions on charts: whether they may be, what is amiss first, and where; children; what is in what; and what follows of it. No program in this text. -/
import Derived.Lib.Strings
import Derived.Lib.Hide
namespace Go.Proofs.YtmhkpjcdkjnlnaaGreatDoor
set_option linter.unusedVariables false

structure Ac where
 kind:Int
 n:Int
 m:Int
 expr:ByteArray
structure St where
 kind:Int
 par:Int
 ini:List Int
 ent:List Ac
 exi:List Ac
structure Tr where
 src:Int
 ev:Int
 guard:ByteArray
 tgts:List Int
 inner:Bool
 acts:List Ac
structure Ch where
 vars:Int
 sts:List St
 trs:List Tr
def noAc:Ac:=⟨0,0,0,⟨#[]⟩⟩
def noSt:St:=⟨0,0,[],[],[]⟩
def noTr:Tr:=⟨0,0,⟨#[]⟩,[],false,[]⟩

def fromB (n a b:Int):Bool:=decide (a≤n) && decide (n≤b)
def histB (k:Int):Bool:=decide (k=5) || decide (k=6)
def stAt (S:List St) (s:Int):St:=S.getD s.toNat noSt
def isSt (S:List St) (s:Int):Bool:=decide (0≤s) && decide (s < (S.length:Int))
def cUp (S:List St) (s:Int):Int:=if isSt S s=true∧fromB (stAt S s).par 0 (s - 1)=true then (stAt S s).par else -1
def inF (S:List St):Nat→Int→Int→Bool
 | 0,_,_=>false
 | n+1,p,b=>if p < 0 then false else if p=b then true else inF S n (cUp S p) b
def cIn (S:List St) (a b:Int):Bool:=inF S (a.toNat+1) (cUp S a) b
def allU (n:Nat) (f:Nat→Bool):Bool:=(List.range n).all f
def badU (n:Nat) (f:Nat→Int):Option Nat:=(List.range n).find? fun i=>decide (f i ≠ 0)

def kidB (S:List St) (s:Int) (k:Nat):Bool:=decide ((stAt S k).par=s) && !histB (stAt S k).kind
def kidsU (S:List St) (s:Int) (n:Nat):List Int:=((List.range n).filter (kidB S s)).map fun k:Nat=>(k:Int)
def kids (S:List St) (s:Int):List Int:=kidsU S s S.length

section
variable (T:ByteArray→Int→Int→Bool)
def actB (vars:Int) (a:Ac):Bool :=
 if a.kind=1 then fromB a.n 0 (vars - 1) && decide (a.m=0) && T a.expr vars 1
 else if a.kind=2 ∨ a.kind=4 then fromB a.n 1 1000 && decide (a.m=0) && decide (a.expr.size=0)
 else if a.kind=3 then fromB a.n 1 1000 && fromB a.m 0 1000 && T a.expr vars 1
 else if a.kind=5 then decide (a.n=0) && decide (a.m=0) && T a.expr vars 1
 else false
def actsB (vars:Int) (l:List Ac):Bool:=decide (l.length≤5) && allU l.length fun i=>actB T vars (l.getD i noAc)
def kindB (S:List St) (s:Int):Bool:=if s=0 then decide ((stAt S s).kind=2) else fromB (stAt S s).kind 1 6
def parB (S:List St) (s:Int):Bool:=if s=0 then decide ((stAt S s).par=-1) else decide ((stAt S s).par=s - 1) || cIn S (s - 1) (stAt S s).par
def kindInB (S:List St) (s:Int):Bool :=
 if s=0 then true
 else if (stAt S s).kind=4 then decide ((stAt S (stAt S s).par).kind=2)
 else if histB (stAt S s).kind=true∧(stAt S s).par=0 then false
 else decide ((stAt S (stAt S s).par).kind=2) || decide ((stAt S (stAt S s).par).kind=3)
def needsB (S:List St) (s:Int):Bool:=decide ((stAt S s).kind=2) || decide ((stAt S s).kind=3)
def iniB (S:List St) (s:Int):Bool :=
 if (stAt S s).kind ≠ 2∧histB (stAt S s).kind=false then decide ((stAt S s).ini.length=0)
 else if (stAt S s).ini.length ≠ 1 then false
 else if isSt S ((stAt S s).ini.getD 0 0)=false ∨ histB (stAt S ((stAt S s).ini.getD 0 0)).kind=true then false
 else if (stAt S s).kind=5 then decide ((stAt S ((stAt S s).ini.getD 0 0)).par=(stAt S s).par)
 else if (stAt S s).kind=6 then cIn S ((stAt S s).ini.getD 0 0) (stAt S s).par
 else cIn S ((stAt S s).ini.getD 0 0) s
def stActsB (S:List St) (vars s:Int):Bool :=
 if histB (stAt S s).kind=true then decide ((stAt S s).ent.length=0) && decide ((stAt S s).exi.length=0)
 else actsB T vars (stAt S s).ent && actsB T vars (stAt S s).exi
def stF (S:List St) (vars s:Int):Int :=
 if kindB S s=false then 10
 else if parB S s=false then 1
 else if kindInB S s=false then 10
 else if needsB S s=true∧(kids S s).length=0 then 4
 else if iniB S s=false then 11
 else if stActsB T S vars s=false then 1
 else 0

def notFirst (S:List St) (s:Int):Bool:=decide (s ≠ 0) && isSt S s
def srcB (S:List St) (s:Int):Bool:=notFirst S s && fromB (stAt S s).kind 1 3
def evB (S:List St) (e:Int):Bool:=fromB e 0 1000 || decide (e=1001) || decide (e=1002) || fromB e 2000 (2000+(S.length:Int) - 1)
def cCnt (S:List St) (s:Int):Int:=if histB (stAt S s).kind=true then (stAt S s).par else s
def apF (S:List St):Nat→Int→Int→Bool
 | 0,_,_=>false
 | n+1,p,b=>if p < 0 then false else if cIn S b p=true then decide ((stAt S p).kind=3) else apF S n (cUp S p) b
def apart (S:List St) (a b:Int):Bool :=
 if a=b ∨ cIn S a b=true ∨ cIn S b a=true then false else apF S (a.toNat+1) (cUp S a) b
def pairB (S:List St) (l:List Int) (i:Nat):Bool:=allU i fun k=>apart S (cCnt S (l.getD i 0)) (cCnt S (l.getD k 0))
def tgtsB (S:List St) (l:List Int):Bool :=
 decide (l.length≤3) && allU l.length (fun i=>notFirst S (l.getD i 0)) && allU l.length (pairB S l)
def trF (S:List St) (vars:Int) (t:Tr):Int :=
 if srcB S t.src=false then 10
 else if evB S t.ev=false then 1
 else if tgtsB S t.tgts=false then 11
 else if t.guard.size ≠ 0∧T t.guard vars 2=false then 8
 else if actsB T vars t.acts=false then 1
 else 0
def sizedB (C:Ch):Bool:=fromB C.vars 0 8 && fromB (C.sts.length:Int) 1 24 && decide (C.trs.length≤40)
inductive CA where
 | ok
 | large
 | spot (k:Nat) (c:Int)
def chk (C:Ch):CA :=
 if sizedB C=false then .large
 else match badU C.sts.length (fun s=>stF T C.sts C.vars (s:Int)) with
  | some s=>.spot s (stF T C.sts C.vars (s:Int))
  | none=>match badU C.trs.length (fun i=>trF T C.sts C.vars (C.trs.getD i noTr)) with
   | some i=>.spot (C.sts.length+i) (trF T C.sts C.vars (C.trs.getD i noTr))
   | none=>.ok
end
def fewActsB (l:List Ac):Bool:=allU l.length (fun i=>decide ((l.getD i noAc).expr.size≤500)) && decide (l.length≤20)
def fewStB (s:St):Bool:=fewActsB s.ent && fewActsB s.exi && decide (s.ini.length≤20)
def fewTrB (t:Tr):Bool:=fewActsB t.acts && decide (t.tgts.length≤20) && decide (t.guard.size≤500)
def fewB (C:Ch):Bool :=
 decide (C.sts.length≤40) && decide (C.trs.length≤60) && allU C.sts.length (fun i=>fewStB (C.sts.getD i noSt)) && allU C.trs.length (fun i=>fewTrB (C.trs.getD i noTr))

theorem allU_true {n:Nat} {f:Nat→Bool} (h:∀ i,i < n→f i=true):allU n f=true:=by
 unfold allU; rw [List.all_eq_true]; exact fun i hi=>h i (List.mem_range.1 hi)
theorem allU_false {n:Nat} {f:Nat→Bool} (i:Nat) (hi:i < n) (h:f i=false):allU n f=false:=by
 unfold allU; rw [List.all_eq_false]; exact ⟨i,List.mem_range.2 hi,by rw [h]; exact Bool.false_ne_true⟩
theorem of_allU {n:Nat} {f:Nat→Bool} (h:allU n f=true) (i:Nat) (hi:i < n):f i=true:=by
 unfold allU at h; rw [List.all_eq_true] at h; exact h i (List.mem_range.2 hi)
theorem badU_none {n:Nat} {f:Nat→Int} (h:∀ i,i < n→f i=0):badU n f=none:=by
 unfold badU; rw [List.find?_eq_none]; intro i hi; simp [h i (List.mem_range.1 hi)]
theorem badU_none_iff {n:Nat} {f:Nat→Int}:badU n f=none ↔ ∀ i,i < n→f i=0:=by
 refine ⟨fun h i hi=>?_,badU_none⟩
 unfold badU at h; rw [List.find?_eq_none] at h
 have:=h i (List.mem_range.2 hi)
 simpa using this
theorem badU_some {n:Nat} {f:Nat→Int} (i:Nat) (hi:i < n) (h:f i ≠ 0) (hb:∀ j,j < i→f j=0):badU n f=some i:=by
 unfold badU
 rw [List.find?_range_eq_some]
 exact ⟨by simpa using h,List.mem_range.2 hi,fun j hj=>by simp [hb j hj]⟩
theorem kidsU_succ (S:List St) (s:Int) (n:Nat):kidsU S s (n+1)=kidsU S s n ++ if kidB S s n=true then [(n:Int)] else []:=by
 unfold kidsU
 rw [List.range_succ,List.filter_append,List.map_append]
 by_cases h:kidB S s n=true
 · simp [h]
 · simp [h]
theorem kidsU_len (S:List St) (s:Int) (n:Nat):(kidsU S s n).length≤n:=by
 unfold kidsU
 rw [List.length_map]
 have:=List.length_filter_le (kidB S s) (List.range n)
 simpa using this

theorem fromB_true {n a b:Int}:fromB n a b=true ↔ a≤n∧n≤b:=by simp [fromB]
theorem cUp_le (S:List St) (s:Int):cUp S s < s ∨ cUp S s=-1:=by
 unfold cUp
 split
 · rename_i h; have:=fromB_true.1 h.2; left; omega
 · exact .inr rfl
theorem cUp_ge (S:List St) (s:Int):-1≤cUp S s:=by
 unfold cUp
 split
 · rename_i h; have:=fromB_true.1 h.2; omega
 · omega
theorem cUp_lt (S:List St) (s:Int):cUp S s < (S.length:Int):=by
 unfold cUp isSt
 split
 · rename_i h; have:=fromB_true.1 h.2; have:=h.1; simp at this; omega
 · omega
theorem cUp_pos {S:List St} {s:Int} (h:0≤cUp S s):isSt S s=true∧cUp S s=(stAt S s).par∧cUp S s < s:=by
 unfold cUp at h ⊢
 split at h
 · rename_i hc; rw [if_pos hc]; have:=fromB_true.1 hc.2; exact ⟨hc.1,rfl,by omega⟩
 · omega
theorem cUp_step (S:List St) (p:Int) (hp:0≤p):(cUp S p+1).toNat < (p+1).toNat:=by
 rcases cUp_le S p with h | h <;> omega
theorem inF_fuel (S:List St) (b:Int):∀ (n m:Nat) (p:Int),(p+1).toNat≤n→(p+1).toNat≤m→inF S n p b=inF S m p b
 | 0,0,_,_,_=>rfl
 | 0,m+1,p,h1,_=>by rw [inF,inF,if_pos (by omega)]
 | n+1,0,p,_,h2=>by rw [inF,inF,if_pos (by omega)]
 | n+1,m+1,p,h1,h2=>by
  rw [inF,inF]
  by_cases hp:p < 0
  · rw [if_pos hp,if_pos hp]
  · have:=cUp_step S p (by omega)
    rw [if_neg hp,if_neg hp,inF_fuel S b n m (cUp S p) (by omega) (by omega)]
theorem cIn_fuel (S:List St) (a b:Int) (n:Nat) (h:(cUp S a+1).toNat≤n):cIn S a b=inF S n (cUp S a) b:=by
 unfold cIn
 refine inF_fuel S b _ _ _ ?_ h
 rcases cUp_le S a with h1 | h1 <;> omega
theorem cIn_up (S:List St) (a b:Int):cIn S a b=if cUp S a < 0 then false else if cUp S a=b then true else cIn S (cUp S a) b:=by
 have e:cIn S a b=inF S (a.toNat+1) (cUp S a) b:=rfl
 rw [e,inF]
 by_cases h:cUp S a < 0
 · rw [if_pos h,if_pos h]
 · rw [if_neg h,if_neg h]
   by_cases h2:cUp S a=b
   · rw [if_pos h2,if_pos h2]
   · rw [if_neg h2,if_neg h2,cIn_fuel S (cUp S a) b a.toNat]
     have:=cUp_step S (cUp S a) (by omega)
     rcases cUp_le S a with h1 | h1 <;> omega
theorem cIn_iff (S:List St) (a b:Int):cIn S a b=true ↔ 0≤cUp S a∧(cUp S a=b ∨ cIn S (cUp S a) b=true):=by
 rw [cIn_up]
 by_cases h:cUp S a < 0
 · rw [if_pos h]; simp; omega
 · rw [if_neg h]
   by_cases h2:cUp S a=b
   · rw [if_pos h2]; simp [h2]; omega
   · rw [if_neg h2]; simp [h2]; omega
theorem cIn_bounds {S:List St}:∀ (n:Nat) (a b:Int),a.toNat≤n→cIn S a b=true→0≤b∧b < a∧isSt S a=true
 | n,a,b,hn,h=>by
  obtain ⟨h1,h2⟩:=(cIn_iff S a b).1 h
  obtain ⟨p1,p2,p3⟩:=cUp_pos h1
  rcases h2 with h2 | h2
  · subst h2; exact ⟨h1,p3,p1⟩
  · cases n with
    | zero=>omega
    | succ n =>
     obtain ⟨q1,q2,q3⟩:=cIn_bounds n (cUp S a) b (by omega) h2
     exact ⟨q1,by omega,p1⟩
theorem cIn_range {S:List St} {a b:Int} (h:cIn S a b=true):0≤b∧b < a∧isSt S a=true:=cIn_bounds a.toNat a b (Nat.le_refl _) h
theorem cIn_trans {S:List St}:∀ (n:Nat) (a b c:Int),a.toNat≤n→cIn S a b=true→cIn S b c=true→cIn S a c=true
 | n,a,b,c,hn,h,k=>by
  obtain ⟨h1,h2⟩:=(cIn_iff S a b).1 h
  obtain ⟨p1,p2,p3⟩:=cUp_pos h1
  refine (cIn_iff S a c).2 ⟨h1,?_⟩
  rcases h2 with h2 | h2
  · subst h2; exact .inr k
  · cases n with
    | zero=>omega
    | succ n=>exact .inr (cIn_trans n (cUp S a) b c (by omega) h2 k)

theorem chk_ok {T:ByteArray→Int→Int→Bool} {C:Ch} (h:chk T C=.ok) :
 sizedB C=true∧(∀ s,s < C.sts.length→stF T C.sts C.vars (s:Int)=0)∧(∀ i,i < C.trs.length→trF T C.sts C.vars (C.trs.getD i noTr)=0):=by
 unfold chk at h
 split at h
 · cases h
 · rename_i h0
   split at h
   · cases h
   · rename_i h1
     split at h
     · cases h
     · rename_i h2
       exact ⟨by simpa using h0,badU_none_iff.1 h1,badU_none_iff.1 h2⟩
theorem chk_of {T:ByteArray→Int→Int→Bool} {C:Ch} (h0:sizedB C=true) (h1:∀ s,s < C.sts.length→stF T C.sts C.vars (s:Int)=0) (h2:∀ i,i < C.trs.length→trF T C.sts C.vars (C.trs.getD i noTr)=0):chk T C=.ok:=by
 unfold chk
 rw [if_neg (by rw [h0]; simp),badU_none h1]
 simp only
 rw [badU_none h2]
theorem stF_par {T:ByteArray→Int→Int→Bool} {S:List St} {vars s:Int} (h:stF T S vars s=0):parB S s=true:=by
 unfold stF at h
 split at h
 · omega
 · split at h
   · omega
   · rename_i h1; simpa using h1
theorem par_of {T:ByteArray→Int→Int→Bool} {C:Ch} (h:chk T C=.ok) (s:Int) (h0:0 < s) (h1:s < (C.sts.length:Int)):0≤cUp C.sts s∧(cUp C.sts s=s - 1 ∨ cIn C.sts (s - 1) (cUp C.sts s)=true):=by
 have hp:=stF_par ((chk_ok h).2.1 s.toNat (by omega))
 rw [show ((s.toNat:Nat):Int)=s by omega] at hp
 unfold parB at hp
 rw [if_neg (by omega)] at hp
 simp only [Bool.or_eq_true,decide_eq_true_eq] at hp
 have hr:0≤(stAt C.sts s).par∧(stAt C.sts s).par≤s - 1:=by
  rcases hp with hp | hp
  · omega
  · have:=cIn_range hp; omega
 have hu:cUp C.sts s=(stAt C.sts s).par:=by
  unfold cUp
  rw [if_pos ⟨by unfold isSt; simp; omega,fromB_true.2 hr⟩]
 rw [hu]
 exact ⟨hr.1,hp⟩
theorem in_first {T:ByteArray→Int→Int→Bool} {C:Ch} (h:chk T C=.ok):∀ (n:Nat) (s:Int),s.toNat≤n→0 < s→s < (C.sts.length:Int)→cIn C.sts s 0=true
 | n,s,hn,h0,h1=>by
  obtain ⟨p0,p1⟩:=par_of h s h0 h1
  obtain ⟨_,_,p2⟩:=cUp_pos p0
  refine (cIn_iff _ _ _).2 ⟨p0,?_⟩
  by_cases hz:cUp C.sts s=0
  · exact .inl hz
  · cases n with
    | zero=>omega
    | succ n=>exact .inr (in_first h n (cUp C.sts s) (by omega) (by omega) (by omega))

def addS (A:Nat→Bool) (s:Int):Nat→Bool:=fun k=>A k || decide ((k:Int)=s)
def Le (A B:Nat→Bool):Prop:=∀ k,A k=true→B k=true
def upsF (S:List St):Nat→Int→List Int
 | 0,_=>[]
 | n+1,p=>if p < 0 then [] else p :: upsF S n (cUp S p)
def ups (S:List St) (s:Int):List Int:=upsF S (s.toNat+1) (cUp S s)
def bitN (n k:Nat):Bool:=decide (n / 2 ^ k % 2=1)
def memb (S:List St) (P:Nat→Bool):List Int:=((List.range S.length).filter P).map fun k:Nat=>(k:Int)
def histAt (H:List Nat) (s:Int):Nat:=H.getD s.toNat 0
def ofS (S:List St) (H:List Nat) (s:Int):List Int :=
 if isSt S s=false then [] else if histB (stAt S s).kind=false then [s] else if histAt H s ≠ 0 then memb S (bitN (histAt H s)) else (stAt S s).ini
section
variable {σ:Type} (S:List St) (t:σ→Int→Bool) (ad:σ→Int→σ) (F:σ→Int→σ)
def kidStep (st:σ) (k:Int):σ:=if t st k=true then st else F st k
def kidsW (p:Int) (st:σ):σ:=(kids S p).foldl (kidStep t F) st
def upStep (st:σ) (p:Int):σ:=if (stAt S p).kind=3 then kidsW S t F p (ad st p) else ad st p
def upW (top:Int):List Int→σ→σ
 | [],st=>st
 | p :: r,st=>if p=top then st else upW top r (upStep S t ad F st p)
def aboveW (top:Int) (st:σ) (s:Int):σ:=upW S t ad F top (ups S s) st
def allW (l:List Int) (top:Int) (st:σ):σ:=l.foldl (aboveW S t ad F top) (l.foldl F st)
end
def someD (S:List St) (A:Nat→Bool) (k:Int):Bool:=(List.range S.length).any fun x=>A x && cIn S (x:Int) k
def someP (S:List St) (A:Nat→Bool) (k:Int):Bool:=(List.range S.length).any fun x=>A x && (cIn S (x:Int) k && !histB (stAt S (x:Int)).kind)
structure Bs where
 a:Nat→Bool
 b:Nat→Bool
def adB (st:Bs) (p:Int):Bs:=⟨addS st.a p,st.b⟩
def tB (S:List St) (st:Bs) (k:Int):Bool:=someP S st.a k
def pB (S:List St) (H:List Nat):Nat→Bs→Int→Bs
 | 0,st,_=>st
 | f+1,st,s =>
  if isSt S s=false ∨ st.b s.toNat=true then st
  else if histB (stAt S s).kind=true then allW S (tB S) adB (pB S H f) (ofS S H s) (stAt S s).par ⟨st.a,addS st.b s⟩
  else if (stAt S s).kind=2 then allW S (tB S) adB (pB S H f) (stAt S s).ini s ⟨addS st.a s,addS st.b s⟩
  else if (stAt S s).kind=3 then kidsW S (tB S) (pB S H f) s ⟨addS st.a s,addS st.b s⟩
  else ⟨addS st.a s,addS st.b s⟩
def dB (S:List St) (H:List Nat):Nat→(Nat→Bool)→Int→(Nat→Bool)
 | 0,A,_=>A
 | f+1,A,s =>
  if isSt S s=false then A
  else if histB (stAt S s).kind=true then allW S (someD S) addS (dB S H f) (ofS S H s) (stAt S s).par A
  else if (stAt S s).kind=2 then allW S (someD S) addS (dB S H f) (stAt S s).ini s (addS A s)
  else if (stAt S s).kind=3 then kidsW S (someD S) (dB S H f) s (addS A s)
  else addS A s
def realIn (acc:List Int) (x:Int):List Int:=if acc.contains x=true then acc else acc ++ [x]
def realS (S:List St) (H:List Nat) (l:List Int):List Int:=l.foldl (fun acc s=>(ofS S H s).foldl realIn acc) []
def pSet (S:List St) (H:List Nat) (top:Int) (l:List Int):Bs :=
 (realS S H l).foldl (aboveW S (tB S) adB (pB S H (S.length+2)) top) (l.foldl (pB S H (S.length+2)) ⟨fun _=>false,fun _=>false⟩)
def dSet (S:List St) (H:List Nat) (top:Int) (l:List Int):Nat→Bool :=
 (realS S H l).foldl (aboveW S (someD S) addS (dB S H (S.length+2)) top) (l.foldl (dB S H (S.length+2)) (fun _=>false))

structure Tame (S:List St):Prop where
 len:S.length≤24
 pos:0 < S.length
 par:∀ s,isSt S s=true→(stAt S s).par=cUp S s
 up:∀ s,isSt S s=true→0 < s→0≤cUp S s
 kpar:∀ s,0≤cUp S s→(stAt S (cUp S s)).kind=2 ∨ (stAt S (cUp S s)).kind=3
 first:(stAt S 0).kind=2
 ini2:∀ s,isSt S s=true→(stAt S s).kind=2→∃ t,(stAt S s).ini=[t]∧isSt S t=true∧histB (stAt S t).kind=false∧cIn S t s=true
 ini5:∀ s,isSt S s=true→histB (stAt S s).kind=true→∃ t,(stAt S s).ini=[t]∧isSt S t=true∧histB (stAt S t).kind=false∧cIn S t (stAt S s).par=true
 kid:∀ s,isSt S s=true→(stAt S s).kind=2 ∨ (stAt S s).kind=3→kids S s ≠ []
 all:∀ s,isSt S s=true→0 < s→cIn S s 0=true
theorem histB_23 {k:Int} (h:k=2 ∨ k=3):histB k=false:=by rcases h with rfl | rfl <;> decide
theorem isSt_iff {S:List St} {s:Int}:isSt S s=true ↔ 0≤s∧s < (S.length:Int):=by unfold isSt; simp
theorem stF_parts {T:ByteArray→Int→Int→Bool} {S:List St} {vars s:Int} (h:stF T S vars s=0):kindB S s=true∧kindInB S s=true∧¬ (needsB S s=true∧(kids S s).length=0)∧iniB S s=true:=by
 unfold stF at h
 split at h
 · omega
 · rename_i h1
   split at h
   · omega
   · split at h
     · omega
     · rename_i h2
       split at h
       · omega
       · rename_i h3
         split at h
         · omega
         · rename_i h4
           exact ⟨by simpa using h1,by simpa using h2,h3,by simpa using h4⟩
theorem list_one {l:List Int} (h:l.length=1):l=[l.getD 0 0]:=by
 match l,h with
 | [x],_=>rfl
theorem tame_of {T:ByteArray→Int→Int→Bool} {C:Ch} (h:chk T C=.ok):Tame C.sts:=by
 obtain ⟨h0,h1,_⟩:=chk_ok h
 have hsz:1≤(C.sts.length:Int)∧(C.sts.length:Int)≤24:=by
  unfold sizedB at h0
  simp only [Bool.and_eq_true,fromB_true] at h0
  exact h0.1.2
 have hs:∀ s,isSt C.sts s=true→stF T C.sts C.vars s=0:=fun s hs=>by
  have:=isSt_iff.1 hs
  have:=h1 s.toNat (by omega)
  rwa [show ((s.toNat:Nat):Int)=s by omega] at this
 have hpar:∀ s,isSt C.sts s=true→(stAt C.sts s).par=cUp C.sts s:=fun s hi=>by
  have hr:=isSt_iff.1 hi
  by_cases hz:s=0
  · have hp:=stF_par (hs s hi)
    unfold parB at hp
    rw [if_pos hz] at hp
    have hp':(stAt C.sts s).par=-1:=by simpa using hp
    rw [hp']
    unfold cUp
    rw [hp',if_neg]
    intro hc
    have:=fromB_true.1 hc.2
    omega
  · obtain ⟨p1,_⟩:=par_of h s (by omega) hr.2
    exact ((cUp_pos p1).2.1).symm
 have hup:∀ s,isSt C.sts s=true→0 < s→0≤cUp C.sts s:=fun s hi hp=>(par_of h s hp (isSt_iff.1 hi).2).1
 have hk0:(stAt C.sts 0).kind=2:=by
  have:=(stF_parts (hs 0 (isSt_iff.2 ⟨by omega,by omega⟩))).1
  unfold kindB at this
  simpa using this
 refine ⟨by omega,by omega,hpar,hup,fun s hu=>?_,hk0,fun s hi hk=>?_,fun s hi hk=>?_,fun s hi hk hn=>?_,fun s hi hp=>?_⟩
 · obtain ⟨p1,p2,p3⟩:=cUp_pos hu
   have hin:=(stF_parts (hs s p1)).2.1
   unfold kindInB at hin
   rw [if_neg (by omega),← p2] at hin
   split at hin
   · left; simpa using hin
   · split at hin
     · cases hin
     · simpa using hin
 · have hi':=(stF_parts (hs s hi)).2.2.2
   unfold iniB at hi'
   rw [if_neg (by rw [hk]; simp)] at hi'
   split at hi'
   · cases hi'
   · rename_i hl
     split at hi'
     · cases hi'
     · rename_i ht
       rw [hk] at hi'
       simp only [if_neg (show ¬ (2:Int)=5 by decide),if_neg (show ¬ (2:Int)=6 by decide)] at hi'
       refine ⟨_,list_one (by omega),?_,?_,hi'⟩
       · cases hc:isSt C.sts ((stAt C.sts s).ini.getD 0 0) with
         | true=>rfl
         | false=>exact absurd (.inl hc) ht
       · cases hc:histB (stAt C.sts ((stAt C.sts s).ini.getD 0 0)).kind with
         | false=>rfl
         | true=>exact absurd (.inr hc) ht
 · have hi':=(stF_parts (hs s hi)).2.2.2
   have hs0:s ≠ 0:=by rintro rfl; rw [hk0] at hk; revert hk; decide
   have hr:=isSt_iff.1 hi
   unfold iniB at hi'
   rw [if_neg (by rw [hk]; simp)] at hi'
   split at hi'
   · cases hi'
   · rename_i hl
     split at hi'
     · cases hi'
     · rename_i ht
       have ht1:isSt C.sts ((stAt C.sts s).ini.getD 0 0)=true:=by
        cases hc:isSt C.sts ((stAt C.sts s).ini.getD 0 0) with
        | true=>rfl
        | false=>exact absurd (.inl hc) ht
       have ht2:histB (stAt C.sts ((stAt C.sts s).ini.getD 0 0)).kind=false:=by
        cases hc:histB (stAt C.sts ((stAt C.sts s).ini.getD 0 0)).kind with
        | false=>rfl
        | true=>exact absurd (.inr hc) ht
       refine ⟨_,list_one (by omega),ht1,ht2,?_⟩
       generalize (stAt C.sts s).ini.getD 0 0=x at *
       split at hi'
       · have he:(stAt C.sts x).par=(stAt C.sts s).par:=by simpa using hi'
         have hu:=hup s hi (by omega)
         rw [hpar x ht1,hpar s hi] at he
         rw [hpar s hi]
         exact (cIn_iff _ _ _).2 ⟨by rw [he]; exact hu,.inl he⟩
       · split at hi'
         · exact hi'
         · rename_i h5 h6
           unfold histB at hk
           simp [h5,h6] at hk
 · have:=(stF_parts (hs s hi)).2.2.1
   refine this ⟨?_,by rw [hn]; rfl⟩
   unfold needsB
   rcases hk with hk | hk <;> rw [hk] <;> decide
 · exact in_first h s.toNat s (Nat.le_refl _) hp (isSt_iff.1 hi).2
theorem kids_mem {S:List St} {p k:Int}:k ∈ kids S p ↔ isSt S k=true∧(stAt S k).par=p∧histB (stAt S k).kind=false:=by
 unfold kids kidsU
 rw [List.mem_map]
 constructor
 · rintro ⟨j,hj,rfl⟩
   obtain ⟨h1,h2⟩:=List.mem_filter.1 hj
   unfold kidB at h2
   simp only [Bool.and_eq_true,decide_eq_true_eq,Bool.not_eq_true'] at h2
   exact ⟨isSt_iff.2 ⟨by omega,by have:=List.mem_range.1 h1; omega⟩,h2.1,h2.2⟩
 · rintro ⟨h1,h2,h3⟩
   have hr:=isSt_iff.1 h1
   refine ⟨k.toNat,List.mem_filter.2 ⟨List.mem_range.2 (by omega),?_⟩,by omega⟩
   have e:((k.toNat:Nat):Int)=k:=by omega
   unfold kidB
   rw [e,h2,h3]
   simp
theorem Tame.kid_up {S:List St} (hT:Tame S) {p k:Int} (hp:0≤p) (h:k ∈ kids S p):isSt S k=true∧cUp S k=p∧histB (stAt S k).kind=false∧p < k∧cIn S k p=true:=by
 obtain ⟨h1,h2,h3⟩:=kids_mem.1 h
 rw [hT.par k h1] at h2
 have:=cUp_pos (S:=S) (s:=k) (by omega)
 exact ⟨h1,h2,h3,by omega,(cIn_iff _ _ _).2 ⟨by omega,.inl h2⟩⟩
theorem ups_mem {S:List St} {q:Int}:∀ (n:Nat) (p:Int),q ∈ upsF S n p→q=p ∨ cIn S p q=true
 | 0,p,h=>by simp [upsF] at h
 | n+1,p,h=>by
  rw [upsF] at h
  split at h
  · cases h
  · rcases List.mem_cons.1 h with h | h
    · exact .inl h
    · right
      rcases ups_mem n _ h with h2 | h2
      · refine (cIn_iff _ _ _).2 ⟨?_,.inl h2.symm⟩
        cases n with
        | zero=>simp [upsF] at h
        | succ n =>
         rw [upsF] at h
         split at h
         · cases h
         · omega
      · exact (cIn_iff _ _ _).2 ⟨by have:=cIn_range h2; omega,.inr h2⟩
theorem ups_in {S:List St} {s q:Int} (h:q ∈ ups S s):cIn S s q=true:=by
 have hq:0≤cUp S s:=by
  unfold ups at h
  rw [upsF] at h
  split at h
  · cases h
  · omega
 rcases ups_mem _ _ h with h2 | h2
 · exact (cIn_iff _ _ _).2 ⟨hq,.inl h2.symm⟩
 · exact (cIn_iff _ _ _).2 ⟨hq,.inr h2⟩
theorem upsF_ahead {S:List St} {b:Int}:∀ (n:Nat) (p:Int),(p=b ∨ cIn S p b=true)→∀ q ∈ (upsF S n p).takeWhile (fun x=>decide (x ≠ b)),cIn S q b=true
 | 0,p,h,q,hq=>by simp [upsF] at hq
 | n+1,p,h,q,hq=>by
  rw [upsF] at hq
  split at hq
  · cases hq
  · by_cases hb:p=b
    · rw [List.takeWhile_cons,if_neg (by simp [hb])] at hq
      cases hq
    · rw [List.takeWhile_cons,if_pos (by simpa using hb)] at hq
      have hi:cIn S p b=true:=by rcases h with h | h; exact absurd h hb; exact h
      rcases List.mem_cons.1 hq with rfl | hq
      · exact hi
      · exact upsF_ahead n _ ((cIn_iff _ _ _).1 hi).2 q hq
theorem ups_ahead {S:List St} {s b:Int} (h:cIn S s b=true):∀ q ∈ (ups S s).takeWhile (fun x=>decide (x ≠ b)),cIn S q b=true:=upsF_ahead _ _ ((cIn_iff _ _ _).1 h).2

section
variable {σ τ:Type} {S:List St} {R:σ→τ→Prop} {t:σ→Int→Bool} {ad:σ→Int→σ} {F:σ→Int→σ} {t':τ→Int→Bool} {ad':τ→Int→τ} {F':τ→Int→τ}
theorem fold_two {α:Type} (G:σ→α→σ) (G':τ→α→τ):∀ (L:List α) (st:σ) (st':τ),(∀ x ∈ L,∀ st st',R st st'→R (G st x) (G' st' x))→R st st'→R (L.foldl G st) (L.foldl G' st')
 | [],st,st',_,h=>h
 | x :: L,st,st',hx,h=>fold_two G G' L _ _ (fun y hy=>hx y (List.mem_cons_of_mem _ hy)) (hx x (List.mem_cons_self ..) st st' h)
theorem kids_two (ht:∀ st st' k,R st st'→t st k=t' st' k) (p:Int) (hF:∀ k ∈ kids S p,∀ st st',R st st'→R (F st k) (F' st' k)) (st:σ) (st':τ) (h:R st st'):R (kidsW S t F p st) (kidsW S t' F' p st'):=by
 refine fold_two _ _ _ _ _ (fun k hk st st' h=>?_) h
 unfold kidStep
 rw [← ht st st' k h]
 split
 · exact h
 · exact hF k hk st st' h
theorem up_two (ht:∀ st st' k,R st st'→t st k=t' st' k) (top:Int):∀ (L:List Int) (st:σ) (st':τ),(∀ p ∈ L.takeWhile (fun x=>decide (x ≠ top)),(∀ st st',R st st'→R (ad st p) (ad' st' p))∧((stAt S p).kind=3→∀ k ∈ kids S p,∀ st st',R st st'→R (F st k) (F' st' k)))→R st st'→R (upW S t ad F top L st) (upW S t' ad' F' top L st')
 | [],st,st',_,h=>h
 | p :: L,st,st',hp,h=>by
  rw [upW,upW]
  by_cases he:p=top
  · rw [if_pos he,if_pos he]; exact h
  · rw [if_neg he,if_neg he]
    rw [List.takeWhile_cons,if_pos (by simpa using he)] at hp
    refine up_two ht top L _ _ (fun q hq=>hp q (List.mem_cons_of_mem _ hq)) ?_
    obtain ⟨h1,h2⟩:=hp p (List.mem_cons_self ..)
    unfold upStep
    split
    · rename_i h3
      exact kids_two ht p (h2 h3) _ _ (h1 _ _ h)
    · exact h1 _ _ h
theorem all_two (ht:∀ st st' k,R st st'→t st k=t' st' k) (top:Int) (l:List Int) (hF:∀ x ∈ l,∀ st st',R st st'→R (F st x) (F' st' x))
 (hU:∀ x ∈ l,∀ p ∈ (ups S x).takeWhile (fun x=>decide (x ≠ top)),(∀ st st',R st st'→R (ad st p) (ad' st' p))∧((stAt S p).kind=3→∀ k ∈ kids S p,∀ st st',R st st'→R (F st k) (F' st' k))) (st:σ) (st':τ) (h:R st st'):R (allW S t ad F l top st) (allW S t' ad' F' l top st') :=
 fold_two _ _ _ _ _ (fun x hx st st' h=>up_two ht top _ _ _ (hU x hx) h) (fold_two _ _ _ _ _ hF h)
end

def Abs (g:(Nat→Bool)→(Nat→Bool)):Prop:=(∀ A,Le A (g A))∧∀ A A',Le (g A) A'→g A'=A'
theorem Le.refl (A:Nat→Bool):Le A A:=fun _ h=>h
theorem Le.trans {A B C:Nat→Bool} (h:Le A B) (k:Le B C):Le A C:=fun x hx=>k x (h x hx)
theorem abs_id:Abs (fun A=>A):=⟨fun A=>Le.refl A,fun _ _ _=>rfl⟩
theorem le_add (A:Nat→Bool) (s:Int):Le A (addS A s):=fun k h=>by simp [addS,h]
theorem add_id {A:Nat→Bool} {s:Int} (h:∀ k:Nat,(k:Int)=s→A k=true):addS A s=A:=by
 funext k
 unfold addS
 by_cases hk:(k:Int)=s
 · simp [hk,h k hk]
 · simp [hk]
theorem abs_add (s:Int):Abs (fun A=>addS A s):=⟨fun A=>le_add A s,fun A A' h=>add_id fun k hk=>h k (by simp [addS,hk])⟩
theorem abs_comp {g h:(Nat→Bool)→(Nat→Bool)} (hg:Abs g) (hh:Abs h):Abs (fun A=>h (g A)) :=
 ⟨fun A=>(hg.1 A).trans (hh.1 _),fun A A' hl=>by
  show h (g A')=A'
  rw [hg.2 A A' ((hh.1 _).trans hl),hh.2 (g A) A' hl]⟩
theorem abs_fold {α:Type} (G:(Nat→Bool)→α→(Nat→Bool)):∀ (L:List α),(∀ x ∈ L,Abs fun A=>G A x)→Abs fun A=>L.foldl G A
 | [],_=>abs_id
 | x :: L,h=>abs_comp (h x (List.mem_cons_self ..)) (abs_fold G L fun y hy=>h y (List.mem_cons_of_mem _ hy))
theorem someD_le {S:List St} {A B:Nat→Bool} (h:Le A B) {k:Int} (hs:someD S A k=true):someD S B k=true:=by
 unfold someD at hs ⊢
 rw [List.any_eq_true] at hs ⊢
 obtain ⟨x,h1,h2⟩:=hs
 simp only [Bool.and_eq_true] at h2 ⊢
 exact ⟨x,h1,h x h2.1,h2.2⟩
theorem abs_kid {S:List St} {F:(Nat→Bool)→Int→(Nat→Bool)} {k:Int} (h:Abs fun A=>F A k):Abs fun A=>kidStep (someD S) F A k:=by
 refine ⟨fun A=>?_,fun A A' hl=>?_⟩
 · show Le A (kidStep (someD S) F A k)
   unfold kidStep
   split
   · exact Le.refl A
   · exact h.1 A
 · show kidStep (someD S) F A' k=A'
   have hl:Le (kidStep (someD S) F A k) A':=hl
   unfold kidStep at hl ⊢
   split at hl
   · rename_i h1
     rw [if_pos (someD_le hl h1)]
   · split
     · rfl
     · exact h.2 A A' hl
theorem abs_kids {S:List St} {F:(Nat→Bool)→Int→(Nat→Bool)} (h:∀ k,Abs fun A=>F A k) (p:Int):Abs fun A=>kidsW S (someD S) F p A:=abs_fold _ _ fun k _=>abs_kid (h k)
theorem abs_upStep {S:List St} {F:(Nat→Bool)→Int→(Nat→Bool)} (h:∀ k,Abs fun A=>F A k) (p:Int):Abs fun A=>upStep S (someD S) addS F A p:=by
 unfold upStep
 split
 · exact abs_comp (abs_add p) (abs_kids h p)
 · exact abs_add p
theorem abs_up {S:List St} {F:(Nat→Bool)→Int→(Nat→Bool)} (h:∀ k,Abs fun A=>F A k) (top:Int):∀ L:List Int,Abs fun A=>upW S (someD S) addS F top L A
 | []=>abs_id
 | p :: L=>by
  unfold upW
  split
  · exact abs_id
  · exact abs_comp (abs_upStep h p) (abs_up h top L)
theorem abs_above {S:List St} {F:(Nat→Bool)→Int→(Nat→Bool)} (h:∀ k,Abs fun A=>F A k) (top s:Int):Abs fun A=>aboveW S (someD S) addS F top A s:=abs_up h top _
theorem abs_all {S:List St} {F:(Nat→Bool)→Int→(Nat→Bool)} (h:∀ k,Abs fun A=>F A k) (l:List Int) (top:Int):Abs fun A=>allW S (someD S) addS F l top A :=
 abs_comp (g:=fun A=>l.foldl F A) (h:=fun A=>l.foldl (aboveW S (someD S) addS F top) A) (abs_fold F l fun k _=>h k) (abs_fold _ l fun k _=>abs_above h top k)
theorem abs_dB (S:List St) (H:List Nat):∀ (f:Nat) (s:Int),Abs fun A=>dB S H f A s
 | 0,s=>abs_id
 | f+1,s=>by
  unfold dB
  split
  · exact abs_id
  · split
    · exact abs_all (abs_dB S H f) _ _
    · split
      · exact abs_comp (abs_add s) (abs_all (abs_dB S H f) _ _)
      · split
        · exact abs_comp (abs_add s) (abs_kids (abs_dB S H f) _)
        · exact abs_add s

def rk (S:List St) (s:Int):Nat:=if histB (stAt S s).kind=true then S.length+1 else ((S.length:Int) - s).toNat
def GoodH (S:List St) (H:List Nat):Prop:=∀ s,isSt S s=true→histB (stAt S s).kind=true→∀ x ∈ ofS S H s,isSt S x=true∧histB (stAt S x).kind=false
theorem rk_plain {S:List St} {s:Int} (h:histB (stAt S s).kind=false):rk S s=((S.length:Int) - s).toNat:=by unfold rk; rw [if_neg (by rw [h]; simp)]
theorem rk_hist {S:List St} {s:Int} (h:histB (stAt S s).kind=true):rk S s=S.length+1:=by unfold rk; rw [if_pos h]
theorem rk_in {S:List St} {s x:Int} (hs:histB (stAt S s).kind=false) (hx:histB (stAt S x).kind=false) (h:cIn S x s=true):rk S x < rk S s:=by
 rw [rk_plain hs,rk_plain hx]
 have:=cIn_range h
 have:=isSt_iff.1 this.2.2
 omega
theorem rk_le {S:List St} {x:Int} (h0:isSt S x=true) (hx:histB (stAt S x).kind=false):rk S x≤S.length:=by
 rw [rk_plain hx]
 have:=isSt_iff.1 h0
 omega
theorem rk_lt2 {S:List St} {x:Int} (h0:isSt S x=true):rk S x < S.length+2:=by
 cases hx:histB (stAt S x).kind with
 | true=>rw [rk_hist hx]; omega
 | false=>have:=rk_le h0 hx; omega
def UpOk (S:List St) (r:Nat) (top x:Int):Prop:=∀ p ∈ (ups S x).takeWhile (fun y=>decide (y ≠ top)),isSt S p=true∧histB (stAt S p).kind=false∧∀ k ∈ kids S p,isSt S k=true∧rk S k < r
theorem up_state {S:List St} (hT:Tame S) {x p:Int} (h:p ∈ ups S x):isSt S p=true∧histB (stAt S p).kind=false∧cIn S x p=true:=by
 have hi:=ups_in h
 have hr:=cIn_range hi
 have hp:isSt S p=true:=isSt_iff.2 ⟨hr.1,by have:=isSt_iff.1 hr.2.2; omega⟩
 refine ⟨hp,?_,hi⟩
 -- p is some state's Parent
 have:∀ (n:Nat) (a:Int),a.toNat≤n→cIn S a p=true→∃ b,cUp S b=p:=by
  intro n
  induction n with
  | zero=>intro a ha hc; have:=cIn_range hc; omega
  | succ n ih =>
   intro a ha hc
   obtain ⟨h1,h2⟩:=(cIn_iff _ _ _).1 hc
   rcases h2 with h2 | h2
   · exact ⟨a,h2⟩
   · have:=(cUp_pos h1).2.2
     exact ih (cUp S a) (by omega) h2
 obtain ⟨b,hb⟩:=this _ x (Nat.le_refl _) hi
 have:=hT.kpar b (by omega)
 rw [hb] at this
 exact histB_23 this
theorem kids_rk {S:List St} (hT:Tame S) {p:Int} (hp:isSt S p=true) (hh:histB (stAt S p).kind=false):∀ k ∈ kids S p,isSt S k=true∧rk S k < rk S p∧rk S k≤S.length:=fun k hk=>by
 obtain ⟨h1,h2,h3,h4,h5⟩:=hT.kid_up (isSt_iff.1 hp).1 hk
 exact ⟨h1,rk_in hh h3 h5,rk_le h1 h3⟩
theorem upOk_any {S:List St} (hT:Tame S) (top x:Int) (r:Nat) (hr:S.length < r):UpOk S r top x:=fun p hp=>by
 obtain ⟨h1,h2,h3⟩:=up_state hT (List.takeWhile_subset _ hp)
 exact ⟨h1,h2,fun k hk=>⟨(kids_rk hT h1 h2 k hk).1,by have:=(kids_rk hT h1 h2 k hk).2.2; omega⟩⟩
theorem upOk_in {S:List St} (hT:Tame S) {top x:Int} (ht:histB (stAt S top).kind=false) (h:cIn S x top=true):UpOk S (rk S top) top x:=fun p hp=>by
 obtain ⟨h1,h2,h3⟩:=up_state hT (List.takeWhile_subset _ hp)
 have h4:=ups_ahead h p hp
 exact ⟨h1,h2,fun k hk=>⟨(kids_rk hT h1 h2 k hk).1,by have:=(kids_rk hT h1 h2 k hk).2.1; have:=rk_in ht h2 h4; omega⟩⟩
theorem rk_hist_all {S:List St} (hT:Tame S) {H:List Nat} (hG:GoodH S H) {s:Int} (hs:isSt S s=true) (hh:histB (stAt S s).kind=true) (top:Int):∀ x ∈ ofS S H s,isSt S x=true∧rk S x < rk S s∧UpOk S (rk S s) top x:=fun x hx=>by
 obtain ⟨h1,h2⟩:=hG s hs hh x hx
 rw [rk_hist hh]
 exact ⟨h1,by have:=rk_le h1 h2; omega,upOk_any hT top x _ (by omega)⟩
theorem rk_comp_all {S:List St} (hT:Tame S) {s:Int} (hs:isSt S s=true) (hk:(stAt S s).kind=2):∀ x ∈ (stAt S s).ini,isSt S x=true∧rk S x < rk S s∧UpOk S (rk S s) s x:=fun x hx=>by
 obtain ⟨t,h1,h2,h3,h4⟩:=hT.ini2 s hs hk
 rw [h1] at hx
 obtain rfl:=List.mem_singleton.1 hx
 have hp:=histB_23 (.inl hk)
 exact ⟨h2,rk_in hp h3 h4,upOk_in hT hp h4⟩
theorem UpOk.two {σ τ:Type} {S:List St} {R:σ→τ→Prop} {ad:σ→Int→σ} {ad':τ→Int→τ} {F:σ→Int→σ} {F':τ→Int→τ} {r:Nat} {top x:Int} (h:UpOk S r top x)
 (ha:∀ p,isSt S p=true→histB (stAt S p).kind=false→∀ st st',R st st'→R (ad st p) (ad' st' p)) (hF:∀ k,isSt S k=true→rk S k < r→∀ st st',R st st'→R (F st k) (F' st' k)) :
 ∀ p ∈ (ups S x).takeWhile (fun y=>decide (y ≠ top)),(∀ st st',R st st'→R (ad st p) (ad' st' p))∧((stAt S p).kind=3→∀ k ∈ kids S p,∀ st st',R st st'→R (F st k) (F' st' k)):=fun p hp=>by
 obtain ⟨h1,h2,h3⟩:=h p hp
 exact ⟨ha p h1 h2,fun _ k hk=>hF k (h3 k hk).1 (h3 k hk).2⟩
theorem dB_fuel {S:List St} (hT:Tame S) {H:List Nat} (hG:GoodH S H):∀ (f g:Nat) (s:Int),rk S s < f→rk S s < g→∀ A,dB S H f A s=dB S H g A s
 | 0,_,_,h,_,_=>by omega
 | _+1,0,_,_,h,_=>by omega
 | f+1,g+1,s,h1,h2,A=>by
  rw [dB,dB]
  split
  · rfl
  · rename_i hs
    have hs:isSt S s=true:=by simpa using hs
    have hF:∀ k,isSt S k=true→rk S k < rk S s→∀ st st':Nat→Bool,st=st'→dB S H f st k=dB S H g st' k:=fun k _ hk st st' e=>by rw [e]; exact dB_fuel hT hG f g k (by omega) (by omega) st'
    have ha:∀ p,isSt S p=true→histB (stAt S p).kind=false→∀ st st':Nat→Bool,st=st'→addS st p=addS st' p:=fun _ _ _ _ _ e=>by rw [e]
    have ht:∀ (st st':Nat→Bool) (k:Int),st=st'→someD S st k=someD S st' k:=fun _ _ _ e=>by rw [e]
    split
    · rename_i hh
      have hx:=rk_hist_all hT hG hs hh (stAt S s).par
      exact all_two (R:=fun a b=>a=b) ht _ _ (fun x hx'=>hF x (hx x hx').1 (hx x hx').2.1) (fun x hx'=>(hx x hx').2.2.two ha hF) _ _ rfl
    · rename_i hh
      split
      · rename_i hk
        have hx:=rk_comp_all hT hs hk
        exact all_two (R:=fun a b=>a=b) ht _ _ (fun x hx'=>hF x (hx x hx').1 (hx x hx').2.1) (fun x hx'=>(hx x hx').2.2.two ha hF) _ _ rfl
      · split
        · rename_i hk
          have hx:=kids_rk hT hs (histB_23 (.inr hk))
          exact kids_two (R:=fun a b=>a=b) ht _ (fun k hk'=>hF k (hx k hk').1 (hx k hk').2.1) _ _ rfl
        · rfl

def Plain (S:List St) (A:Nat→Bool):Prop:=∀ k,A k=true→histB (stAt S (k:Int)).kind=false
def Done (S:List St) (H:List Nat) (A:Nat→Bool) (x:Nat):Prop:=∀ A',Le A A'→dB S H (S.length+2) A' (x:Int)=A'
structure Inv (S:List St) (H:List Nat) (r:Nat) (st:Bs):Prop where
 plain:Plain S st.a
 done:∀ x,st.b x=true→rk S (x:Int) < r→Done S H st.a x
structure Post (S:List St) (H:List Nat) (r:Nat) (b0:Nat→Bool) (st:Bs) (A:Nat→Bool):Prop where
 same:st.a=A
 inv:Inv S H r st
 grow:∀ x,st.b x=true→b0 x=true ∨ rk S (x:Int) < r
theorem some_same {S:List St} {A:Nat→Bool} (h:Plain S A) (k:Int):someP S A k=someD S A k:=by
 unfold someP someD
 congr 1
 funext x
 cases hA:A x with
 | false=>rfl
 | true=>rw [h x hA]; simp
theorem post_add {S:List St} {H:List Nat} {r:Nat} {b0:Nat→Bool} (p:Int) (hh:histB (stAt S p).kind=false) (st:Bs) (A:Nat→Bool) (h:Post S H r b0 st A):Post S H r b0 (adB st p) (addS A p):=by
 obtain ⟨h1,h2,h3⟩:=h
 refine ⟨by show addS st.a p=_; rw [h1],⟨fun k hk=>?_,fun x hx hr A' hl=>h2.done x hx hr A' ((le_add _ _).trans hl)⟩,h3⟩
 have hk:addS st.a p k=true:=hk
 unfold addS at hk
 simp only [Bool.or_eq_true,decide_eq_true_eq] at hk
 rcases hk with hk | hk
 · exact h2.plain k hk
 · rw [hk]; exact hh
theorem Post.test {S:List St} {H:List Nat} {r:Nat} {b0:Nat→Bool} (st:Bs) (A:Nat→Bool) (k:Int) (h:Post S H r b0 st A):tB S st k=someD S A k:=by
 unfold tB
 rw [some_same h.inv.plain,h.same]
theorem sim_pB {S:List St} (hT:Tame S) {H:List Nat} (hG:GoodH S H):∀ (f r:Nat) (s:Int),isSt S s=true→rk S s < f→rk S s < r→∀ (b0:Nat→Bool) (st:Bs) (A:Nat→Bool),Post S H r b0 st A→Post S H r b0 (pB S H f st s) (dB S H f A s)
 | 0,_,_,_,h,_,_,_,_,_=>by omega
 | f+1,r,s,hs,hf,hr,b0,st,A,hP=>by
  have hn:((s.toNat:Nat):Int)=s:=by have:=isSt_iff.1 hs; omega
  have hcan:∀ A,dB S H (f+1) A s=dB S H (S.length+2) A s:=fun A=>dB_fuel hT hG _ _ s hf (rk_lt2 hs) A
  cases hm:st.b s.toNat with
  | true =>
   have hd:=hP.inv.done s.toNat hm (by rwa [hn])
   rw [pB,if_pos (.inr hm),hcan,← hP.same]
   have:=hd st.a (Le.refl _)
   rw [hn] at this
   rw [this]
   exact ⟨rfl,hP.inv,hP.grow⟩
  | false =>
   -- what the parts come to
   have key:∀ (st1:Bs),(dB S H (f+1) A s=st1.a)→Post S H (rk S s) (addS st.b s) st1 st1.a→Post S H r b0 st1 (dB S H (f+1) A s):=by
    intro st1 he hp
    refine ⟨he.symm,⟨hp.inv.plain,fun x hx hxr=>?_⟩,fun x hx=>?_⟩
    · by_cases hlt:rk S (x:Int) < rk S s
      · exact hp.inv.done x hx hlt
      · have hb:=hp.grow x hx
        have hb:addS st.b s x=true:=by rcases hb with hb | hb; exact hb; omega
        unfold addS at hb
        simp only [Bool.or_eq_true,decide_eq_true_eq] at hb
        rcases hb with hb | hb
        · intro A' hl
          refine hP.inv.done x hb hxr A' (Le.trans ?_ hl)
          rw [← he,← hP.same]
          exact (abs_dB S H (f+1) s).1 _
        · intro A' hl
          rw [hb,← hcan]
          exact (abs_dB S H (f+1) s).2 A A' (by show Le (dB S H (f+1) A s) A'; rw [he]; exact hl)
    · rcases hp.grow x hx with hb | hb
      · unfold addS at hb
        simp only [Bool.or_eq_true,decide_eq_true_eq] at hb
        rcases hb with hb | hb
        · exact hP.grow x hb
        · right; rw [hb]; exact hr
      · right; omega
   have hst:Post S H (rk S s) (addS st.b s) ⟨st.a,addS st.b s⟩ A:=by
    refine ⟨hP.same,⟨hP.inv.plain,fun x hx hxr=>?_⟩,fun x hx=>.inl hx⟩
    have hb:addS st.b s x=true:=hx
    unfold addS at hb
    simp only [Bool.or_eq_true,decide_eq_true_eq] at hb
    rcases hb with hb | hb
    · exact hP.inv.done x hb (by omega)
    · rw [hb] at hxr; omega
   have ht0:∀ (st':Bs) (A':Nat→Bool) (k:Int),Post S H (rk S s) (addS st.b s) st' A'→tB S st' k=someD S A' k:=fun st' A' k h=>Post.test st' A' k h
   have hF:∀ k,isSt S k=true→rk S k < rk S s→∀ (st':Bs) (A':Nat→Bool),Post S H (rk S s) (addS st.b s) st' A'→Post S H (rk S s) (addS st.b s) (pB S H f st' k) (dB S H f A' k) :=
    fun k hk hkr st' A' h=>sim_pB hT hG f (rk S s) k hk (by omega) hkr _ st' A' h
   have ha:∀ p,isSt S p=true→histB (stAt S p).kind=false→∀ (st':Bs) (A':Nat→Bool),Post S H (rk S s) (addS st.b s) st' A'→Post S H (rk S s) (addS st.b s) (adB st' p) (addS A' p):=fun p _ hh st' A' h=>post_add p hh st' A' h
   have fin:∀ (st1:Bs) (A1:Nat→Bool),Post S H (rk S s) (addS st.b s) st1 A1→dB S H (f+1) A s=A1→Post S H r b0 st1 (dB S H (f+1) A s):=fun st1 A1 h e=>key st1 (by rw [e,h.same]) ⟨rfl,h.inv,h.grow⟩
   have hc:¬ (isSt S s=false ∨ st.b s.toNat=true):=by rw [hs,hm]; simp
   have hc2:¬ isSt S s=false:=by rw [hs]; simp
   rw [pB,if_neg hc]
   by_cases hh:histB (stAt S s).kind=true
   · rw [if_pos hh]
     have hx:=rk_hist_all hT hG hs hh (stAt S s).par
     refine fin _ _ (all_two (R:=Post S H (rk S s) (addS st.b s)) ht0 _ _ (fun x hx'=>hF x (hx x hx').1 (hx x hx').2.1) (fun x hx'=>(hx x hx').2.2.two ha hF) _ _ hst) ?_
     rw [dB,if_neg hc2,if_pos hh]
   · rw [if_neg hh]
     have hst2:Post S H (rk S s) (addS st.b s) ⟨addS st.a s,addS st.b s⟩ (addS A s):=post_add s (by simpa using hh) _ _ hst
     by_cases hk:(stAt S s).kind=2
     · rw [if_pos hk]
       have hx:=rk_comp_all hT hs hk
       refine fin _ _ (all_two (R:=Post S H (rk S s) (addS st.b s)) ht0 _ _ (fun x hx'=>hF x (hx x hx').1 (hx x hx').2.1) (fun x hx'=>(hx x hx').2.2.two ha hF) _ _ hst2) ?_
       rw [dB,if_neg hc2,if_neg hh,if_pos hk]
     · rw [if_neg hk]
       by_cases hk3:(stAt S s).kind=3
       · rw [if_pos hk3]
         have hx:=kids_rk hT hs (histB_23 (.inr hk3))
         refine fin _ _ (kids_two (R:=Post S H (rk S s) (addS st.b s)) ht0 _ (fun k hk'=>hF k (hx k hk').1 (hx k hk').2.1) _ _ hst2) ?_
         rw [dB,if_neg hc2,if_neg hh,if_neg hk,if_pos hk3]
       · rw [if_neg hk3]
         refine fin _ _ hst2 ?_
         rw [dB,if_neg hc2,if_neg hh,if_neg hk,if_neg hk3]
theorem pB_none {S:List St} {H:List Nat} (f:Nat) (st:Bs) {s:Int} (h:isSt S s=false):pB S H f st s=st:=by
 cases f with
 | zero=>rfl
 | succ f=>rw [pB,if_pos (.inl h)]
theorem dB_none {S:List St} {H:List Nat} (f:Nat) (A:Nat→Bool) {s:Int} (h:isSt S s=false):dB S H f A s=A:=by
 cases f with
 | zero=>rfl
 | succ f=>rw [dB,if_pos h]
theorem set_same {S:List St} (hT:Tame S) {H:List Nat} (hG:GoodH S H) (top:Int) (l:List Int):(pSet S H top l).a=dSet S H top l:=by
 have hF:∀ k,∀ (st':Bs) (A':Nat→Bool),Post S H (S.length+2) (fun _=>false) st' A'→Post S H (S.length+2) (fun _=>false) (pB S H (S.length+2) st' k) (dB S H (S.length+2) A' k):=fun k st' A' h=>by
  cases hk:isSt S k with
  | false=>rw [pB_none _ _ hk,dB_none _ _ hk]; exact h
  | true=>exact sim_pB hT hG _ _ k hk (rk_lt2 hk) (rk_lt2 hk) _ st' A' h
 have ht0:∀ (st':Bs) (A':Nat→Bool) (k:Int),Post S H (S.length+2) (fun _=>false) st' A'→tB S st' k=someD S A' k:=fun st' A' k h=>Post.test st' A' k h
 have h0:Post S H (S.length+2) (fun _=>false) ⟨fun _=>false,fun _=>false⟩ (fun _=>false):=by
  refine ⟨rfl,⟨fun k hk=>?_,fun x hx _=>?_⟩,fun x hx=>?_⟩
  · exact absurd hk Bool.false_ne_true
  · exact absurd hx Bool.false_ne_true
  · exact absurd hx Bool.false_ne_true
 have:=fold_two (R:=Post S H (S.length+2) (fun _=>false)) (aboveW S (tB S) adB (pB S H (S.length+2)) top) (aboveW S (someD S) addS (dB S H (S.length+2)) top) (realS S H l) _ _
  (fun x _ st st' h=>up_two (R:=Post S H (S.length+2) (fun _=>false)) ht0 top _ _ _ ((upOk_any hT top x (S.length+2) (by omega)).two (fun p _ hh st A h=>post_add p hh st A h) (fun k _ _=>hF k)) h)
  (fold_two (R:=Post S H (S.length+2) (fun _=>false)) (pB S H (S.length+2)) (dB S H (S.length+2)) l _ _ (fun x _=>hF x) h0)
 exact this.same
end Go.Proofs.YtmhkpjcdkjnlnaaGreatDoor
