/- Plain functions on actions: what each does, what they come to one after the other, and in two parts. No program in this text. -/
import Derived.Test.YtmhkpjcdkjnlnaaGreatDoorFUCarg
import Derived.Test.YtmhkpjcdkjnlnaaGreatDoorFUCact
import Derived.Test.YtmhkpjcdkjnlnaaGreatDoorFUEwor
import Derived.Test.YtmhkpjcdkjnlnaaGreatDoorFUTmem
import Derived.Test.YtmhkpjcdkjnlnaaGreatDoorFUPlev
import Derived.Test.YtmhkpjcdkjnlnaaGreatDoorFUPkind
import Derived.Laws.StructEq
import Derived.Laws.AppendOwnNone
import Derived.Test.YtmhkpjcdkjnlnaaGreatDoorFUHref
namespace Go.Proofs.YtmhkpjcdkjnlnaaGreatDoor
open Go.RowKit
set_option linter.unusedVariables false

structure Ou where
 kind:Int
 ev:Int
 dl:Int
 to:Int
structure Ds where
 env:List Int
 out:List Ou
 ins:List Int
def valOfA (a:Ans) (env:List Int):Vl :=
 match a with
 | .toks o=>ans ⟨false,env,0⟩ o
 | .form _=>.bad 2
 | .large=>.bad 3
def valA (e:ByteArray) (env:List Int):Vl:=valOfA (parseAns e.data.toList) env
def doK (a:Ac) (n:Int) (d:Ds):Option Ds :=
 if a.kind=1 then (if 0≤a.n∧a.n < (d.env.length:Int) then some ⟨d.env.set a.n.toNat n,d.out,d.ins⟩ else none)
 else if a.kind=3 then some ⟨d.env,d.out ++ [⟨3,a.n,a.m,n⟩],d.ins⟩
 else some ⟨d.env,d.out ++ [⟨5,0,0,n⟩],d.ins⟩
def doV (a:Ac) (d:Ds):Vl→Option Ds
 | .ok k n=>if k=1 then doK a n d else none
 | .bad _=>none
def doA (a:Ac) (d:Ds):Option Ds :=
 if a.kind=2 then some ⟨d.env,d.out,d.ins ++ [a.n]⟩
 else if a.kind=4 then some ⟨d.env,d.out ++ [⟨4,0,0,a.n⟩],d.ins⟩
 else if a.kind=1 ∨ a.kind=3 ∨ a.kind=5 then doV a d (valA a.expr d.env)
 else some d
def Ds.amiss (d:Ds):Ds:=⟨d.env,d.out,d.ins ++ [1001]⟩
def doL:List Ac→Ds→Ds
 | [],d=>d
 | a :: l,d=>match doA a d with
  | some d'=>doL l d'
  | none=>d.amiss
theorem doL_some {a:Ac} {l:List Ac} {d d':Ds} (h:doA a d=some d'):doL (a :: l) d=doL l d':=by rw [doL,h]
theorem doL_none {a:Ac} {l:List Ac} {d:Ds} (h:doA a d=none):doL (a :: l) d=d.amiss:=by rw [doL,h]
structure Near (d d':Ds):Prop where
 env:d'.env.length=d.env.length
 out:d'.out.length≤d.out.length+1
 ins:d'.ins.length≤d.ins.length+1
theorem doK_near {a:Ac} {n:Int} {d d':Ds} (h:doK a n d=some d'):Near d d':=by
 unfold doK at h
 split at h
 · split at h
   · injection h with h; subst h; exact ⟨by simp,by simp,by simp⟩
   · cases h
 · split at h
   · injection h with h; subst h; exact ⟨rfl,by simp,by simp⟩
   · injection h with h; subst h; exact ⟨rfl,by simp,by simp⟩
theorem doV_near {a:Ac} {d d':Ds} {v:Vl} (h:doV a d v=some d'):Near d d':=by
 cases v with
 | bad c=>cases h
 | ok k n =>
  unfold doV at h
  simp only at h
  split at h
  · exact doK_near h
  · cases h
theorem doA_near {a:Ac} {d d':Ds} (h:doA a d=some d'):Near d d':=by
 unfold doA at h
 split at h
 · injection h with h; subst h; exact ⟨rfl,by simp,by simp⟩
 · split at h
   · injection h with h; subst h; exact ⟨rfl,by simp,by simp⟩
   · split at h
     · exact doV_near h
     · injection h with h; subst h; exact ⟨rfl,by simp,by simp⟩
theorem doL_env:∀ (l:List Ac) (d:Ds),(doL l d).env.length=d.env.length
 | [],d=>rfl
 | a :: l,d=>by
  cases h:doA a d with
  | none=>rw [doL_none h]; rfl
  | some d'=>rw [doL_some h,doL_env l d',(doA_near h).env]
theorem doL_out:∀ (l:List Ac) (d:Ds),(doL l d).out.length≤d.out.length+l.length
 | [],d=>by simp [doL]
 | a :: l,d=>by
  cases h:doA a d with
  | none=>rw [doL_none h]; simp [Ds.amiss]
  | some d' =>
   have:=doL_out l d'
   have:=(doA_near h).out
   rw [doL_some h,List.length_cons]
   omega
theorem doL_ins:∀ (l:List Ac) (d:Ds),(doL l d).ins.length≤d.ins.length+l.length+1
 | [],d=>by simp [doL]
 | a :: l,d=>by
  cases h:doA a d with
  | none=>rw [doL_none h]; simp [Ds.amiss]
  | some d' =>
   have:=doL_ins l d'
   have:=(doA_near h).ins
   rw [doL_some h,List.length_cons]
   omega
def Ds.Fit (d:Ds):Prop:=∀ x ∈ d.env,F64 x
theorem doK_fit {a:Ac} {n:Int} {d d':Ds} (hn:F64 n) (hd:d.Fit) (h:doK a n d=some d'):d'.Fit:=by
 unfold doK at h
 split at h
 · split at h
   · injection h with h
     subst h
     intro x hx
     rcases List.mem_or_eq_of_mem_set hx with h | h
     · exact hd x h
     · exact h ▸ hn
   · cases h
 · split at h
   · injection h with h; subst h; exact hd
   · injection h with h; subst h; exact hd
open Go.ChangeShapes Go.WideShapes Go.ChangeAt Go.RowKit

theorem Blk.four {w:World} {g:Nat} {t:TypeId} {x y z u:Value} (h:Blk w g t #[x,y,z,u]) :
 (w.cell? ⟨g,0,none⟩=some x∧w.cell? ⟨g,1,none⟩=some y∧w.cell? ⟨g,2,none⟩=some z∧w.cell? ⟨g,3,none⟩=some u)∧(w.frozen? ⟨g,0,none⟩=false∧w.frozen? ⟨g,1,none⟩=false∧w.frozen? ⟨g,2,none⟩=false∧w.frozen? ⟨g,3,none⟩=false) :=
 ⟨⟨h.cell 0,h.cell 1,h.cell 2,h.cell 3⟩,h.frozen 0,h.frozen 1,h.frozen 2,h.frozen 3⟩
def ouCells (o:Ou):List Value:=[.int .i64 o.kind,.int .i64 o.ev,.int .i64 o.dl,.int .i64 o.to]
theorem ouCells_len (o:Ou):(ouCells o).length=4:=rfl
theorem Tryz.infoOut:(Tryz.prog.info? 77).map (fun i=>(i.zero,i.size,i.bytes))=some (some (.agg #[.int .i64 0,.int .i64 0,.int .i64 0,.int .i64 0]),4,32):=by kernel_rfl
def OuAt (w:World) (b o:Nat) (x:Ou):Prop :=
 w.cell? ⟨b,o,none⟩=some (.int .i64 x.kind)∧w.cell? ⟨b,o+1,none⟩=some (.int .i64 x.ev)∧w.cell? ⟨b,o+2,none⟩=some (.int .i64 x.dl)∧w.cell? ⟨b,o+3,none⟩=some (.int .i64 x.to)
theorem OuAt.keeps:Keeps OuAt:=fun w w' b o x hb hlt h =>
 ⟨(hb.cell (p:=⟨b,_,none⟩) hlt).trans h.1,(hb.cell (p:=⟨b,_,none⟩) hlt).trans h.2.1,(hb.cell (p:=⟨b,_,none⟩) hlt).trans h.2.2.1,(hb.cell (p:=⟨b,_,none⟩) hlt).trans h.2.2.2⟩
def OutsAt (w:World) (v:Value) (l:List Ou):Prop:=RowsAt 4 OuAt w v l
theorem OutsAt.below {w w':World} {v:Value} {l:List Ou} (h:OutsAt w v l) (hb:Below w.heap.size w w'):OutsAt w' v l:=RowsAt.below OuAt.keeps h hb
def OwnOuts (B:Nat) (w:World) (v:Value) (L:List Ou):Prop:=w.ownsRow B 77 4 v L.length (L.flatMap ouCells)
def OwnIns (B:Nat) (w:World) (v:Value) (L:List Int):Prop:=w.ownsRow B 3 1 v L.length (intVals L)
def OwnEnv (B:Nat) (w:World) (v:Value) (L:List Int):Prop:=RowAt B w 2 1 intCells v L
theorem OwnOuts.outs {B:Nat} {w:World} {v:Value} {L:List Ou} (h:OwnOuts B w v L):OutsAt w v L:=by
 have:=RowAt.rows (val:=fun x:Ou=>x) (P:=OuAt) (RowAt.of_own ouCells_len h) (fun r _ b o hc=>⟨hc 0 _ rfl,hc 1 _ rfl,hc 2 _ rfl,hc 3 _ rfl⟩)
 rwa [List.map_id'] at this
theorem nums_of_rows {w:World} {v:Value} {L:List Int} (h:RowsAt 1 IntAt w v L):NumsAt w v L:=by
 obtain ⟨A,cap,hv,hc,hi⟩:=h
 refine ⟨A,cap,hv,hc,fun i x hx=>?_⟩
 obtain ⟨b,o,hA,hb,hcell⟩:=hi i x hx
 exact ⟨b,o,hA,hb,by unfold IntAt at hcell; rwa [Nat.mul_one] at hcell⟩
theorem rows_of_nums {w:World} {v:Value} {L:List Int} (h:NumsAt w v L):RowsAt 1 IntAt w v L:=by
 obtain ⟨A,cap,hv,hc,hi⟩:=h
 refine ⟨A,cap,hv,hc,fun i x hx=>?_⟩
 obtain ⟨b,o,hA,hb,hcell⟩:=hi i x hx
 exact ⟨b,o,hA,hb,by unfold IntAt; rwa [Nat.mul_one]⟩
theorem OwnEnv.nums {B:Nat} {w:World} {v:Value} {L:List Int} (h:OwnEnv B w v L):NumsAt w v L:=by
 have:=RowAt.rows (val:=fun x:Int=>x) (P:=IntAt) h (fun r _ b o hc=>hc 0 _ rfl)
 rw [List.map_id'] at this
 exact nums_of_rows this
theorem OwnEnv.below {B:Nat} {w w':World} {v:Value} {L:List Int} (h:OwnEnv B w v L) (hb:Below w.heap.size w w'):OwnEnv B w' v L:=RowAt.below h hb
theorem OwnOuts.below {B:Nat} {w w':World} {v:Value} {L:List Ou} (h:OwnOuts B w v L) (hb:Below w.heap.size w w'):OwnOuts B w' v L:=own_below h hb
theorem OwnIns.below {B:Nat} {w w':World} {v:Value} {L:List Int} (h:OwnIns B w v L) (hb:Below w.heap.size w w'):OwnIns B w' v L:=own_below h hb
theorem OwnEnv.slice {B:Nat} {w:World} {v:Value} {L:List Int} (h:OwnEnv B w v L):∃ A cap,v=.slice A L.length cap:=by
 rcases h with ⟨rfl,rfl⟩ | ⟨g,cap,_,rfl,_⟩
 · exact ⟨_,_,rfl⟩
 · exact ⟨_,_,rfl⟩
theorem own_else {w:World} {B:Nat} {e t:TypeId} {s n g:Nat} {v:Value} {xs:List Value} {cs:Array Value} (h:w.ownsRow B e s v n xs) (hg:Blk w g t cs) (het:e ≠ t):v.ownBlock ≠ some g:=by
 rcases h.2 with ⟨rfl,_⟩ | ⟨g',cap,cur,rfl,_,h3,_⟩
 · intro hc; cases hc
 · intro hc
   have hc:g'=g:=by injection hc
   subst hc
   unfold Blk at hg
   rw [hg] at h3
   injection h3 with h3
   injection h3 with _ h5
   exact het h5.symm
theorem own_apart {w:World} {B:Nat} {e t:TypeId} {s n g:Nat} {v:Value} {xs:List Value} {cs:Array Value} (h:w.ownsRow B e s v n xs) (hg:Blk w g t cs) (het:e ≠ t) (j:Nat) (u:Value):(w.setCell ⟨g,j,none⟩ u).ownsRow B e s v n xs:=by
 have hne:=own_else h hg het
 refine ⟨h.1,?_⟩
 rcases h.2 with h2 | ⟨g',cap,cur,rfl,h2,h3,h4⟩
 · exact .inl h2
 · have hg':g' ≠ g:=fun hc=>hne (by rw [hc]; rfl)
   exact .inr ⟨g',cap,cur,rfl,h2,(Below.heap_setCell w ⟨g,j,none⟩ u g' hg').trans h3,h4⟩
theorem own_own {w:World} {B B':Nat} {e t:TypeId} {s s' n n':Nat} {v u:Value} {xs ys:List Value} (h:w.ownsRow B e s v n xs) (hu:w.ownsRow B' t s' u n' ys) (het:e ≠ t):v.ownBlock=none ∨ v.ownBlock ≠ u.ownBlock:=by
 rcases hu.2 with ⟨rfl,_⟩ | ⟨g,cap,cur,rfl,_,hg,_⟩
 · cases hv:v.ownBlock with
   | none=>exact .inl rfl
   | some k=>exact .inr (by intro hc; cases hc)
 · exact .inr (own_else h hg het)
theorem row_grown {w w':World} {B B':Nat} {e t:TypeId} {s n:Nat} {v u:Value} {L:List Int} {xs:List Value} (h:RowAt B w e 1 intCells v L) (hu:w.ownsRow B' t s u n xs) (het:e ≠ t) (hg:w.grownBy w' u.ownBlock):RowAt B w' e 1 intCells v L:=by
 rcases h with h | ⟨g,cap,cur,h1,h2,h3,h4,h5⟩
 · exact .inl h
 · refine .inr ⟨g,cap,cur,h1,h2,h3.grown hg ?_,h4,h5⟩
   exact fun hc=>own_else hu h3 (Ne.symm het) hc.symm
structure DsAt (B g:Nat) (w:World) (ve vo vi:Value) (X:Ds):Prop where
 blk:Blk w g 200 #[ve,vo,vi]
 ge:B≤g
 env:OwnEnv B w ve X.env
 out:OwnOuts B w vo X.out
 ins:OwnIns B w vi X.ins
theorem DsAt.below {B g:Nat} {w w':World} {ve vo vi:Value} {X:Ds} (h:DsAt B g w ve vo vi X) (hb:Below w.heap.size w w'):DsAt B g w' ve vo vi X :=
 ⟨h.blk.below hb h.blk.lt,h.ge,h.env.below hb,h.out.below hb,h.ins.below hb⟩
theorem DsAt.drewN {B g:Nat} {w:World} {ve vo vi:Value} {X:Ds} (h:DsAt B g w ve vo vi X) (n:Nat):DsAt B g (w.drewN n) ve vo vi X:=⟨h.blk,h.ge,h.env,h.out,h.ins⟩
theorem DsAt.drew {B g:Nat} {w:World} {ve vo vi:Value} {X:Ds} (h:DsAt B g w ve vo vi X):DsAt B g w.drew ve vo vi X:=⟨h.blk,h.ge,h.env,h.out,h.ins⟩
theorem DsAt.lt {B g:Nat} {w:World} {ve vo vi:Value} {X:Ds} (h:DsAt B g w ve vo vi X):B≤w.heap.size:=Nat.le_of_lt (Nat.lt_of_le_of_lt h.ge h.blk.lt)
theorem outs_snoc {B:Nat} {w:World} {v:Value} {L:List Ou} {o:Ou} (h:w.ownsRow B 77 4 v (L.length+1) (L.flatMap ouCells ++ ouCells o)):OwnOuts B w v (L ++ [o]):=by
 unfold OwnOuts
 rw [List.flatMap_append,List.length_append]
 simpa using h
theorem ins_snoc {B:Nat} {w:World} {v:Value} {L:List Int} {x:Int} (h:w.ownsRow B 3 1 v (L.length+1) (intVals L ++ [.int .i64 x])):OwnIns B w v (L ++ [x]):=by
 unfold OwnIns intVals
 rw [List.map_append,List.length_append]
 exact h
theorem DsAt.addOut {B g:Nat} {w w':World} {ve vo vi v':Value} {X:Ds} {o:Ou} (h:DsAt B g w ve vo vi X) (hg:w.grownBy w' vo.ownBlock) (ho:w'.ownsRow B 77 4 v' (X.out.length+1) (X.out.flatMap ouCells ++ ouCells o)) :
 DsAt B g (w'.setCell ⟨g,1,none⟩ v') ve v' vi ⟨X.env,X.out ++ [o],X.ins⟩:=by
 have hb:Blk w' g 200 #[ve,vo,vi]:=h.blk.grown hg (Ne.symm (own_else h.out h.blk (by decide)))
 exact ⟨hb.set_ 1 v',h.ge,RowAt.apart (row_grown h.env h.out (by decide) hg) hb (by decide) 1 v',own_apart (outs_snoc ho) hb (by decide) 1 v',own_apart (World.ownsRow.kept h.ins hg (own_own h.ins h.out (by decide))) hb (by decide) 1 v'⟩
theorem DsAt.addIns {B g:Nat} {w w':World} {ve vo vi v':Value} {X:Ds} {x:Int} (h:DsAt B g w ve vo vi X) (hg:w.grownBy w' vi.ownBlock) (ho:w'.ownsRow B 3 1 v' (X.ins.length+1) (intVals X.ins ++ [.int .i64 x])) :
 DsAt B g (w'.setCell ⟨g,2,none⟩ v') ve vo v' ⟨X.env,X.out,X.ins ++ [x]⟩:=by
 have hb:Blk w' g 200 #[ve,vo,vi]:=h.blk.grown hg (Ne.symm (own_else h.ins h.blk (by decide)))
 exact ⟨hb.set_ 2 v',h.ge,RowAt.apart (row_grown h.env h.ins (by decide) hg) hb (by decide) 2 v',own_apart (World.ownsRow.kept h.out hg (own_own h.out h.ins (by decide))) hb (by decide) 2 v',own_apart (ins_snoc ho) hb (by decide) 2 v'⟩
theorem envSet {B:Nat} {w:World} {b cap:Nat} {L:List Int} {k:Nat} {n:Int} (h:OwnEnv B w (.slice (some ⟨b,0,none⟩) L.length cap) L) (hk:k < L.length):OwnEnv B (w.setCell ⟨b,k,none⟩ (.int .i64 n)) (.slice (some ⟨b,0,none⟩) L.length cap) (L.set k n):=by
 have:=RowAt.put (cells:=intCells) (r':=n) (u:=.int .i64 n) (j:=0) (fun _=>rfl) h (List.getElem?_eq_getElem hk) (by decide) rfl
 rwa [Nat.mul_one,Nat.add_zero] at this
theorem OwnEnv.place {B:Nat} {w:World} {v:Value} {L:List Int} {k:Nat} (h:OwnEnv B w v L) (hk:k < L.length):∃ b cap cur,v=.slice (some ⟨b,0,none⟩) L.length cap∧L.length≤cap∧B≤b∧Blk w b 2 cur∧w.cell? ⟨b,k,none⟩=some (.int .i64 L[k])∧w.frozen? ⟨b,k,none⟩=false:=by
 obtain ⟨g,cap,cur,rfl,hc,hB,hg,hu⟩:=RowAt.at_ h (List.getElem?_eq_getElem hk)
 have:=hu 0 _ rfl
 rw [Nat.mul_one,Nat.add_zero] at this
 exact ⟨g,cap,cur,rfl,hc,hB,hg,this.1,this.2⟩
theorem DsAt.put {B g:Nat} {w:World} {b cap:Nat} {vo vi:Value} {X:Ds} {k:Nat} {n:Int} {cur:Array Value} (h:DsAt B g w (.slice (some ⟨b,0,none⟩) X.env.length cap) vo vi X) (hb:Blk w b 2 cur) (hk:k < X.env.length) :
 DsAt B g (w.setCell ⟨b,k,none⟩ (.int .i64 n)) (.slice (some ⟨b,0,none⟩) X.env.length cap) vo vi ⟨X.env.set k n,X.out,X.ins⟩:=by
 have hne:g ≠ b:=by
  intro hc
  subst hc
  have h1:=h.blk
  unfold Blk at h1 hb
  rw [hb] at h1
  injection h1 with h1
  injection h1 with _ h5
  exact absurd h5 (by decide)
 exact ⟨(Below.heap_setCell w ⟨b,k,none⟩ _ g hne).trans h.blk,h.ge,envSet h.env hk,own_apart h.out hb (by decide) k _,own_apart h.ins hb (by decide) k _⟩

theorem own_zero (w:World) (e:TypeId) (s:Nat):(w.alloc (.cells #[] e)).ownsRow w.heap.size e s (.slice (some ⟨w.heap.size,0,none⟩) 0 0) 0 [] :=
 ⟨by simp,.inr ⟨w.heap.size,0,#[],rfl,Nat.le_refl _,Blk.new w e #[],Nat.le_refl _,by unfold maxLen; omega,by simp,by simp⟩⟩
theorem env_of_own {B:Nat} {w:World} {v:Value} {L:List Int} {n:Nat} (h:w.ownsRow B 2 1 v n (intVals L)) (hn:n=L.length):OwnEnv B w v L:=by
 subst hn
 exact RowAt.of_own (cells:=intCells) (n:=1) (fun _=>rfl) (by rw [ints_flat]; exact h)
theorem nil_yes (c:Nat) (w:World):(binOp .eql 35 (.slice none 0 c) (.slice none 0 0)).run Tryz.prog w=.ok (.bool true) w:=by kernel_rfl
theorem nil_no (ad:Addr) (n c:Nat) (w:World):(binOp .eql 35 (.slice (some ad) n c) (.slice none 0 0)).run Tryz.prog w=.ok (.bool false) w:=by kernel_rfl
set_option maxHeartbeats 1000000 in
set_option maxRecDepth 100000 in
theorem clone_any (v:Value) (L:List Int) (w:World) (h:NumsAt w v L) (hl:L.length≤1000) :
 Calls Tryz.prog 106 #[v] w fun e w'=>Below w.heap.size w w'∧∃ v',e=.returned v'∧OwnEnv w.heap.size w' v' L:=by
 have hr:=rowIs_ints (rows_of_nums h)
 clear h
 obtain ⟨hn,⟨c,rfl,h0⟩ | ⟨ad,cap,rfl,hc,ho⟩⟩:=hr
 · obtain rfl:L=[]:=List.eq_nil_of_length_eq_zero h0
   have hnil:=fun W=>nil_yes c W
   clear hn h0 hl
   go_enter Tryz.func106,Tryz.ntmps106
   go_wp2_with fail
   go_ret
   exact ⟨Below.refl _ _,_,rfl,.inl ⟨rfl,rfl⟩⟩
 · obtain ⟨i0,hi,hz0,hz1,hz2⟩:=info_parts Tryz.info2
   have HI:=Lib.hid hi
   have HZ0:=Lib.hid hz0
   have HZ1:=Lib.hid hz1
   have HZ2:=Lib.hid hz2
   have HN:=Lib.hid hn
   have HB:=Lib.hid (below_box w (.cells #[] 2))
   have HC:=Lib.hid (fun (j:Nat) (u:Value) (hj:(intVals L)[j]?=some u)=>(hc j u hj))
   have HO:=Lib.hid ho
   have hnil:=fun W=>nil_no ad L.length cap W
   clear hi hz0 hz1 hz2 hn hc ho
   go_enter Tryz.func106,Tryz.ntmps106
   go_wp2_with (at_builtin; refine wpList_append_own_at _ rfl _ _ 35 rfl w.heap.size 2 i0 (.int .i64 0) 1 8 Tryz.underlying35 HI.out HZ0.out HZ1.out HZ2.out rfl (by decide) _ 0 [] rfl (own_zero w 2 1) ad L.length cap (intVals L) rfl HN.out ?c1 HO.out ?c3 ?c4 ?c5 ?_)
   case c1=>exact fun j u hj=>(HB.out.cell (Lib.lt_of_cell (HC.out j u hj))).trans (HC.out j u hj)
   case c3=>unfold maxLen; omega
   case c4=>omega
   case c5=>simp
   intro v' w2 hown' hgrow _ _
   have HG:=Lib.hid (Below.grown HB.out hgrow (by simp) (fun g hg=>by
    have h:some w.heap.size=some g:=hg
    injection h with h
    omega))
   have HW:=Lib.hid hown'
   clear hown' hgrow
   go_wp2
   go_ret
   exact ⟨HG.out,_,rfl,env_of_own (by simpa using HW.out) rfl⟩
set_option maxHeartbeats 1000000 in
set_option maxRecDepth 100000 in
theorem nums_same (v u:Value) (L:List Int) (w:World) (hv:NumsAt w v L) (hu:NumsAt w u L) (hl:L.length≤1000) :
 Calls Tryz.prog 35 #[v,u] w fun e w'=>e=.returned (.bool true)∧Below w.heap.size w w':=by
 obtain ⟨A,cap,rfl,hcap,he⟩:=rows_of_nums hv
 obtain ⟨A',cap',rfl,hcap',he'⟩:=rows_of_nums hu
 have HE:=Lib.hid he
 have HE':=Lib.hid he'
 clear he he' hv hu
 go_enter Tryz.func35,Tryz.ntmps35
 go_wp2_with fail
 go_loopw [5] (fun i wr=>∃ k:Nat,k≤L.length∧i=.int .i64 (k:Int)∧Below w.heap.size w wr) (fun i _=>L.length - (intOf i).toNat)
 case atStart=>exact ⟨0,Nat.zero_le _,rfl,Below.refl _ _⟩
 case round =>
  obtain ⟨k,hk,rfl,hb⟩:=hrel
  obtain ⟨wo,rfl⟩:∃ wo:World,wo=wr:=⟨_,rfl⟩
  by_cases hlt:k < L.length
  · obtain ⟨b,o,rfl,hbl,hc⟩:=HE.out k _ (List.getElem?_eq_getElem hlt)
    obtain ⟨b',o',rfl,hbl',hc'⟩:=HE'.out k _ (List.getElem?_eq_getElem hlt)
    have c0:wo.cell? ⟨b,o+k,none⟩=some (.int .i64 L[k]):=by have:=IntAt.keeps w wo b _ _ hb hbl hc; rwa [Nat.mul_one] at this
    have c0':wo.cell? ⟨b',o'+k,none⟩=some (.int .i64 L[k]):=by have:=IntAt.keeps w wo b' _ _ hb hbl' hc'; rwa [Nat.mul_one] at this
    generalize L[k]=x at *
    have HB:=Lib.hid hb
    have hxx:(x != x)=false:=by simp
    clear hc hc' hb
    go_wp2_with fail
    go_quiet (fail)
    go_wp2
    go_roundw
    case rel=>exact ⟨k+1,by omega,by go_num,below_drewN HB.out _⟩
    case measure=>simp [intOf]; omega
  · obtain rfl:k=L.length:=by omega
    go_wp2_with fail
    go_ret
    exact ⟨rfl,hb⟩

def DidPost (B g:Nat) (b:Bool) (X:Ds) (w:World) (e:Ending) (w':World):Prop:=e=.returned (.bool b)∧Below B w w'∧∃ ve vo vi,DsAt B g w' ve vo vi X
theorem DidPost.of {B g:Nat} {b b':Bool} {X:Ds} {w w':World} {e:Ending} {ve vo vi:Value} (he:e=.returned (.bool b')) (hbb:b'=b) (hb:Below B w w') (h:DsAt B g w' ve vo vi X):DidPost B g b X w e w':=⟨hbb ▸ he,hb,_,_,_,h⟩
set_option maxHeartbeats 2000000 in
set_option maxRecDepth 100000 in
theorem assign_no (B g:Nat) (ve vo vi:Value) (X:Ds) (p n:Int) (w:World) (hD:DsAt B g w ve vo vi X) (hel:X.env.length≤1000) (hp:¬ (0≤p∧p < (X.env.length:Int))) :
 Calls Tryz.prog 219 #[.pointer (some ⟨g,0,none⟩),.int .i64 p,.int .i64 n] w (DidPost B g false X w):=by
 have HD:=Lib.hid hD
 obtain ⟨A,cap,rfl⟩:=hD.env.slice
 obtain ⟨⟨c0,c1,c2⟩,f0,f1,f2⟩:=hD.blk.facts3
 clear hD
 by_cases h0:p < 0
 · clear hp
   go_enter Tryz.func219,Tryz.ntmps219
   go_wp2_with fail
   go_ret
   exact .of rfl rfl (Below.refl _ _) HD.out
 · have h1:(X.env.length:Int)≤p:=by omega
   clear hp
   go_enter Tryz.func219,Tryz.ntmps219
   go_wp2_with fail
   go_ret
   exact .of rfl rfl (Below.refl _ _) HD.out
set_option maxHeartbeats 2000000 in
set_option maxRecDepth 100000 in
theorem assign_yes (B g:Nat) (ve vo vi:Value) (X:Ds) (k:Nat) (n:Int) (w:World) (hD:DsAt B g w ve vo vi X) (hel:X.env.length≤1000) (hk:k < X.env.length) :
 Calls Tryz.prog 219 #[.pointer (some ⟨g,0,none⟩),.int .i64 (k:Int),.int .i64 n] w (DidPost B g true ⟨X.env.set k n,X.out,X.ins⟩ w):=by
 obtain ⟨b,cap,cur,rfl,hcap,hB,hblk,cb,fb⟩:=hD.env.place hk
 have HP:=Lib.hid (hD.put (n:=n) hblk hk)
 have HB:=Lib.hid ((Below.refl B w).setCell (p:=⟨b,k,none⟩) hB (.int .i64 n))
 obtain ⟨⟨c0,c1,c2⟩,f0,f1,f2⟩:=hD.blk.facts3
 have h0:¬ ((k:Int) < 0):=by omega
 have h1:¬ ((X.env.length:Int)≤(k:Int)):=by omega
 have hblt:b < w.heap.size:=hblk.lt
 generalize X.env[k]=old at *
 clear hD hblk hB
 go_enter Tryz.func219,Tryz.ntmps219
 go_wp2_with fail
 go_ret
 exact .of rfl rfl HB.out HP.out
theorem assign_any (B g:Nat) (ve vo vi:Value) (X:Ds) (a:Ac) (n:Int) (w:World) (hD:DsAt B g w ve vo vi X) (hel:X.env.length≤1000) (hk:a.kind=1) :
 Calls Tryz.prog 219 #[.pointer (some ⟨g,0,none⟩),.int .i64 a.n,.int .i64 n] w (DidPost B g (doK a n X).isSome ((doK a n X).getD X) w):=by
 unfold doK
 rw [if_pos hk]
 by_cases hp:0≤a.n∧a.n < (X.env.length:Int)
 · rw [if_pos hp]
   have:=assign_yes B g ve vo vi X a.n.toNat n w hD hel (by omega)
   rwa [Int.toNat_of_nonneg hp.1] at this
 · rw [if_neg hp]
   exact assign_no B g ve vo vi X a.n n w hD hel hp
end Go.Proofs.YtmhkpjcdkjnlnaaGreatDoor
