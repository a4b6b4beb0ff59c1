/- How a session stands on its way through a step, plainly: actions, what is done, what is entered. No program in this text. -/
import Derived.Test.YtmhkpjcdkjnlnaaGreatDoorFUArw
import Derived.Test.YtmhkpjcdkjnlnaaGreatDoorFUMsn
import Derived.Test.YtmhkpjcdkjnlnaaGreatDoorFUSrl
import Derived.Laws.BitsAllLaws
namespace Go.Proofs.YtmhkpjcdkjnlnaaGreatDoor
set_option linter.unusedVariables false

structure Se where
 a:Nat→Bool
 hist:List Nat
 env:List Int
 ins:List Int
 st:Int
 out:List Ou
def doS (l:List Ac) (X:Se):Se :=
 ⟨X.a,X.hist,(doL l ⟨X.env,[],[]⟩).env,X.ins ++ (doL l ⟨X.env,[],[]⟩).ins,X.st,X.out ++ (doL l ⟨X.env,[],[]⟩).out⟩
def Se.putA (X:Se) (a:Nat→Bool):Se:=⟨a,X.hist,X.env,X.ins,X.st,X.out⟩
def Se.putSt (X:Se) (n:Int):Se:=⟨X.a,X.hist,X.env,X.ins,n,X.out⟩
def Se.putH (X:Se) (H:List Nat):Se:=⟨X.a,H,X.env,X.ins,X.st,X.out⟩
def Se.addIn (X:Se) (n:Int):Se:=⟨X.a,X.hist,X.env,X.ins ++ [n],X.st,X.out⟩
def doneF (S:List St) (a:Nat→Bool):Nat→Int→Bool
 | 0,_=>false
 | f+1,s=>if (stAt S s).kind=2 then (kids S s).any fun k=>hasS a k && decide ((stAt S k).kind=4)
  else if (stAt S s).kind=3 then (kids S s).all (doneF S a f) else false
def doneS (S:List St) (a:Nat→Bool) (s:Int):Bool:=doneF S a (S.length+1) s
def finS (S:List St) (k:Int) (X:Se):Se :=
 if k=0 then X.putSt 2
 else if (stAt S (stAt S k).par).kind=3∧doneS S X.a (stAt S k).par=true then (X.addIn (2000+k)).addIn (2000+(stAt S k).par)
 else X.addIn (2000+k)
def enS (S:List St) (k:Int) (X:Se):Se :=
 if (stAt S k).kind=4 then finS S (stAt S k).par (doS (stAt S k).ent (X.putA (addS X.a k))) else doS (stAt S k).ent (X.putA (addS X.a k))
def entU (S:List St) (P:Nat→Bool):Nat→Se→Se
 | 0,X=>X
 | n+1,X=>if P n=true then enS S (n:Int) (entU S P n X) else entU S P n X
theorem finS_a (S:List St) (k:Int) (X:Se):(finS S k X).a=X.a:=by
 unfold finS
 split
 · rfl
 · split <;> rfl
theorem enS_a (S:List St) (k:Int) (X:Se):(enS S k X).a=addS X.a k:=by
 unfold enS
 split
 · rw [finS_a]; rfl
 · rfl
theorem finS_hist (S:List St) (k:Int) (X:Se):(finS S k X).hist=X.hist:=by
 unfold finS
 split
 · rfl
 · split <;> rfl
theorem enS_hist (S:List St) (k:Int) (X:Se):(enS S k X).hist=X.hist:=by
 unfold enS
 split
 · rw [finS_hist]; rfl
 · rfl
theorem entU_hist (S:List St) (P:Nat→Bool):∀ (n:Nat) (X:Se),(entU S P n X).hist=X.hist
 | 0,X=>rfl
 | n+1,X=>by
  rw [entU]
  split
  · rw [enS_hist,entU_hist S P n X]
  · exact entU_hist S P n X
theorem entU_a (S:List St) (P:Nat→Bool):∀ (n:Nat) (X:Se) (k:Nat),(entU S P n X).a k=(X.a k || (decide (k < n) && P k))
 | 0,X,k=>by simp [entU]
 | n+1,X,k=>by
  have ih:=entU_a S P n X k
  rw [entU]
  split
  · rename_i hP
    rw [enS_a]
    unfold addS
    rw [ih]
    by_cases hk:k=n
    · subst hk; simp [hP]
    · have h1:decide ((k:Int)=(n:Int))=false:=by simpa using (by omega:¬ (k:Int)=n)
      have h2:decide (k < n+1)=decide (k < n):=by simp; omega
      rw [h1,h2]
      simp
  · rename_i hP
    rw [ih]
    by_cases hk:k=n
    · subst hk; simp [hP]
    · have h2:decide (k < n+1)=decide (k < n):=by simp; omega
      rw [h2]
structure Lim (n:Nat) (X:Se):Prop where
 env:X.env.length≤1000
 fit:∀ x ∈ X.env,F64 x
 out:X.out.length≤50 * n
 ins:X.ins.length≤100000+50 * n
theorem Lim.mono {n m:Nat} {X:Se} (h:Lim n X) (hnm:n≤m):Lim m X:=⟨h.env,h.fit,by have:=h.out; omega,by have:=h.ins; omega⟩
theorem doS_lim {n:Nat} {X:Se} {l:List Ac} (h:Lim n X) (hl:l.length≤40):Lim (n+1) (doS l X):=by
 have h1:=doL_env l ⟨X.env,[],[]⟩
 have h2:=doL_out l ⟨X.env,[],[]⟩
 have h3:=doL_ins l ⟨X.env,[],[]⟩
 have h4:=doL_fit l ⟨X.env,[],[]⟩ h.fit
 have h5:=h.env
 have h6:=h.out
 have h7:=h.ins
 simp only [List.length_nil] at h1 h2 h3
 refine ⟨?_,h4,?_,?_⟩
 · show (doL l ⟨X.env,[],[]⟩).env.length≤1000
   omega
 · show (X.out ++ (doL l ⟨X.env,[],[]⟩).out).length≤_
   rw [List.length_append]
   omega
 · show (X.ins ++ (doL l ⟨X.env,[],[]⟩).ins).length≤_
   rw [List.length_append]
   omega
theorem putA_lim {n:Nat} {X:Se} (h:Lim n X) (a:Nat→Bool):Lim n (X.putA a):=⟨h.env,h.fit,h.out,h.ins⟩
theorem putSt_lim {n:Nat} {X:Se} (h:Lim n X) (a:Int):Lim n (X.putSt a):=⟨h.env,h.fit,h.out,h.ins⟩
theorem putH_lim {n:Nat} {X:Se} (h:Lim n X) (H:List Nat):Lim n (X.putH H):=⟨h.env,h.fit,h.out,h.ins⟩
theorem addIn_lim {n:Nat} {X:Se} (h:Lim n X) (x:Int):Lim (n+1) (X.addIn x):=by
 have h6:=h.out
 have h7:=h.ins
 refine ⟨h.env,h.fit,?_,?_⟩
 · show X.out.length≤_
   omega
 · show (X.ins ++ [x]).length≤_
   rw [List.length_append,List.length_singleton]
   omega
theorem finS_lim {n:Nat} {X:Se} (S:List St) (k:Int) (h:Lim n X):Lim (n+2) (finS S k X):=by
 unfold finS
 split
 · exact (putSt_lim h _).mono (by omega)
 · split
   · exact addIn_lim (addIn_lim h _) _
   · exact (addIn_lim h _).mono (by omega)
theorem enS_lim {n:Nat} {X:Se} {S:List St} (hA:∀ s,(stAt S s).ent.length≤40) (k:Int) (h:Lim n X):Lim (n+3) (enS S k X):=by
 have h1:=doS_lim (putA_lim h (addS X.a k)) (hA k)
 unfold enS
 split
 · exact finS_lim S _ h1
 · exact h1.mono (by omega)
theorem entU_lim {S:List St} (hA:∀ s,(stAt S s).ent.length≤40) {n:Nat} {X:Se} (P:Nat→Bool) (h:Lim n X):∀ k:Nat,Lim (n+3 * k) (entU S P k X)
 | 0=>h
 | k+1=>by
  have ih:=entU_lim hA P h k
  rw [entU]
  split
  · exact (enS_lim hA _ ih).mono (by omega)
  · exact ih.mono (by omega)
open Go.ChangeShapes Go.WideShapes Go.ChangeAt Go.RowKit

theorem or_sets (P Q:Nat→Bool) (n:Nat) (hn:n≤31):bits .or .u32 ((bset P n:Nat):Int) ((bset Q n:Nat):Int)=((bset (fun k=>P k || Q k) n:Nat):Int):=by
 rw [(bits_nat .u32 32 (by decide) wrap_u32 _ _ (bset_u32 P hn) (bset_u32 Q hn)).2]
 congr 1
 refine Nat.eq_of_testBit_eq fun i=>?_
 rw [Nat.testBit_or,bset_test,bset_test,bset_test]
 by_cases hi:i < n <;> simp [hi]
theorem bset_none (n:Nat):bset (fun _=>false) n=0:=(bset_zero _ _).2 (by rw [List.any_eq_false]; intro x _; simp)
theorem bset_congr {P Q:Nat→Bool}:∀ n:Nat,(∀ k,k < n→P k=Q k)→bset P n=bset Q n
 | 0,_=>rfl
 | n+1,h=>by rw [bset,bset,bset_congr n (fun k hk=>h k (by omega)),h n (by omega)]
theorem bset_bitN {P:Nat→Bool} {m:Nat} (k:Nat) (hk:k < m):bitN (bset P m) k=P k:=by
 unfold bitN
 rw [bset_bit P m k hk]
 cases P k <;> simp
theorem bset_more (P:Nat→Bool) {n m:Nat} (hnm:n≤m) (h:∀ k,n≤k→P k=false):bset P m=bset P n:=by
 obtain ⟨d,rfl⟩:∃ d,m=n+d:=⟨m - n,by omega⟩
 clear hnm
 induction d with
 | zero=>rfl
 | succ d ih=>rw [show n+(d+1)=(n+d)+1 by omega,bset,h (n+d) (by omega),ih]; simp
abbrev u32Cells:Nat→List Value:=fun x=>[.int .u32 (x:Int)]
def OwnHist (B:Nat) (w:World) (v:Value) (H:List Nat):Prop:=RowAt B w 33 1 u32Cells v H∧∀ x ∈ H,x < 4294967296
theorem OwnHist.hist {B:Nat} {w:World} {v:Value} {H:List Nat} (h:OwnHist B w v H):HistAt w v H:=by
 have:=RowAt.rows (val:=fun x:Nat=>x) (P:=U32At) h.1 (fun r hr b o hc=>⟨hc 0 _ rfl,h.2 r hr⟩)
 rwa [List.map_id'] at this
theorem OwnHist.below {B:Nat} {w w':World} {v:Value} {H:List Nat} (h:OwnHist B w v H) (hb:Below w.heap.size w w'):OwnHist B w' v H:=⟨RowAt.below h.1 hb,h.2⟩
theorem OwnHist.lower {B B':Nat} {w:World} {v:Value} {H:List Nat} (h:OwnHist B w v H) (hB:B'≤B):OwnHist B' w v H:=⟨RowAt.lower h.1 hB,h.2⟩
theorem OwnHist.slice {B:Nat} {w:World} {v:Value} {H:List Nat} (h:OwnHist B w v H):∃ A cap,v=.slice A H.length cap:=by
 rcases h.1 with ⟨rfl,rfl⟩ | ⟨g,cap,_,rfl,_⟩
 · exact ⟨_,_,rfl⟩
 · exact ⟨_,_,rfl⟩
theorem OwnHist.place {B:Nat} {w:World} {v:Value} {H:List Nat} {k:Nat} (h:OwnHist B w v H) (hk:k < H.length):∃ b cap cur,v=.slice (some ⟨b,0,none⟩) H.length cap∧H.length≤cap∧B≤b∧Blk w b 33 cur∧w.cell? ⟨b,k,none⟩=some (.int .u32 ((H[k]:Nat):Int))∧w.frozen? ⟨b,k,none⟩=false:=by
 obtain ⟨g,cap,cur,rfl,hc,hB,hg,hu⟩:=RowAt.at_ h.1 (List.getElem?_eq_getElem hk)
 have:=hu 0 _ rfl
 rw [Nat.mul_one,Nat.add_zero] at this
 exact ⟨g,cap,cur,rfl,hc,hB,hg,this.1,this.2⟩
theorem rowAt_grown {ρ:Type} {w w':World} {B B':Nat} {e t:TypeId} {s s' n:Nat} {cells:ρ→List Value} {v u:Value} {L:List ρ} {xs:List Value} (h:RowAt B w e s' cells v L) (hu:w.ownsRow B' t s u n xs) (het:e ≠ t) (hg:w.grownBy w' u.ownBlock):RowAt B w' e s' cells v L:=by
 rcases h with h | ⟨g,cap,cur,h1,h2,h3,h4,h5⟩
 · exact .inl h
 · refine .inr ⟨g,cap,cur,h1,h2,h3.grown hg ?_,h4,h5⟩
   exact fun hc=>own_else hu h3 (Ne.symm het) hc.symm
theorem RowAt.elsewhere {ρ:Type} {B:Nat} {w:World} {e t:TypeId} {n g:Nat} {cells:ρ→List Value} {v:Value} {L:List ρ} {cs:Array Value} (h:RowAt B w e n cells v L) (hg:Blk w g t cs) (het:e ≠ t):v.ownBlock ≠ some g:=by
 rcases h with ⟨rfl,_⟩ | ⟨g',cap,cur,rfl,_,h3,_⟩
 · intro hc; cases hc
 · intro hc
   have hc:g'=g:=by injection hc
   subst hc
   unfold Blk at hg h3
   rw [hg] at h3
   injection h3 with h3
   injection h3 with _ h5
   exact het h5.symm
theorem RowAt.free {ρ:Type} {B:Nat} {w:World} {e n:Nat} {cells:ρ→List Value} {v:Value} {L:List ρ} (h:RowAt B w e n cells v L) {k:Nat} (hk:k < B):v.ownBlock ≠ some k:=by
 rcases h with ⟨rfl,_⟩ | ⟨g',cap,cur,rfl,h2,_⟩
 · intro hc; cases hc
 · intro hc
   have hc:g'=k:=by injection hc
   omega
structure RwAt (B:Nat) (w:World) (vh ve vi vo:Value) (X:Se):Prop where
 hist:OwnHist B w vh X.hist
 env:OwnEnv B w ve X.env
 ins:OwnIns B w vi X.ins
 out:OwnOuts B w vo X.out
theorem RwAt.below {B:Nat} {w w':World} {vh ve vi vo:Value} {X:Se} (h:RwAt B w vh ve vi vo X) (hb:Below w.heap.size w w'):RwAt B w' vh ve vi vo X:=⟨h.hist.below hb,h.env.below hb,h.ins.below hb,h.out.below hb⟩
theorem RwAt.apart {B:Nat} {w:World} {vh ve vi vo:Value} {X:Se} {g:Nat} {t:TypeId} {cs:Array Value} (h:RwAt B w vh ve vi vo X) (hg:Blk w g t cs) (h1:33 ≠ t) (h2:2 ≠ t) (h3:3 ≠ t) (h4:77 ≠ t) (j:Nat) (u:Value):RwAt B (w.setCell ⟨g,j,none⟩ u) vh ve vi vo X :=
 ⟨⟨RowAt.apart h.hist.1 hg h1 j u,h.hist.2⟩,RowAt.apart h.env hg h2 j u,own_apart h.ins hg h3 j u,own_apart h.out hg h4 j u⟩
theorem RwAt.putE {B:Nat} {w:World} {vh ve vi vo ve':Value} {X:Se} {E:List Int} (h:RwAt B w vh ve vi vo X) (he:OwnEnv B w ve' E):RwAt B w vh ve' vi vo ⟨X.a,X.hist,E,X.ins,X.st,X.out⟩:=⟨h.hist,he,h.ins,h.out⟩
theorem RwAt.growI {B:Nat} {w w':World} {vh ve vi vo vi':Value} {X:Se} {L:List Int} (h:RwAt B w vh ve vi vo X) (hg:w.grownBy w' vi.ownBlock) (ho:OwnIns B w' vi' L):RwAt B w' vh ve vi' vo ⟨X.a,X.hist,X.env,L,X.st,X.out⟩ :=
 ⟨⟨rowAt_grown h.hist.1 h.ins (by decide) hg,h.hist.2⟩,rowAt_grown h.env h.ins (by decide) hg,ho,World.ownsRow.kept h.out hg (own_own h.out h.ins (by decide))⟩
theorem RwAt.growO {B:Nat} {w w':World} {vh ve vi vo vo':Value} {X:Se} {L:List Ou} (h:RwAt B w vh ve vi vo X) (hg:w.grownBy w' vo.ownBlock) (ho:OwnOuts B w' vo' L):RwAt B w' vh ve vi vo' ⟨X.a,X.hist,X.env,X.ins,X.st,L⟩ :=
 ⟨⟨rowAt_grown h.hist.1 h.out (by decide) hg,h.hist.2⟩,rowAt_grown h.env h.out (by decide) hg,World.ownsRow.kept h.ins hg (own_own h.ins h.out (by decide)),ho⟩
theorem RwAt.putHist {B:Nat} {w:World} {ve vi vo:Value} {b cap k n:Nat} {X:Se} {cur:Array Value} (h:RwAt B w (.slice (some ⟨b,0,none⟩) X.hist.length cap) ve vi vo X) (hb:Blk w b 33 cur) (hk:k < X.hist.length) (hn:n < 4294967296) :
 RwAt B (w.setCell ⟨b,k,none⟩ (.int .u32 (n:Int))) (.slice (some ⟨b,0,none⟩) X.hist.length cap) ve vi vo (X.putH (X.hist.set k n)):=by
 refine ⟨⟨?_,fun x hx=>?_⟩,RowAt.apart h.env hb (by decide) k _,own_apart h.ins hb (by decide) k _,own_apart h.out hb (by decide) k _⟩
 · have:=RowAt.put (cells:=u32Cells) (r':=n) (u:=.int .u32 (n:Int)) (j:=0) (fun _=>rfl) h.hist.1 (List.getElem?_eq_getElem hk) (by decide) rfl
   rwa [Nat.mul_one,Nat.add_zero] at this
 · rcases List.mem_or_eq_of_mem_set hx with hx | hx
   · exact h.hist.2 x hx
   · exact hx ▸ hn
abbrev stCs (t:Nat) (C:Ch) (vs vt vh ve vi vo:Value) (X:Se):Array Value :=
 #[.pointer (some ⟨t,0,none⟩),.int .i64 C.vars,vs,vt,.int .u32 ((bset X.a C.sts.length:Nat):Int),vh,ve,vi,.int .i64 X.st,vo]
structure SeAt (w0:World) (M:Nat→Option Obj) (t g:Nat) (vs vt:Value) (C:Ch) (w:World) (vh ve vi vo:Value) (X:Se):Prop where
 below:Below w0.heap.size w0 w
 ge:w0.heap.size≤g
 blk:Blk w g 121 (stCs t C vs vt vh ve vi vo X)
 rows:RwAt w0.heap.size w vh ve vi vo X
 prot:∀ k o,M k=some o→w.heap[k]?=some o∧k ≠ g∧vh.ownBlock ≠ some k∧vi.ownBlock ≠ some k∧vo.ownBlock ≠ some k
section
variable {w0:World} {M:Nat→Option Obj} {t g:Nat} {vs vt:Value} {C:Ch} {w w':World} {vh ve vi vo:Value} {X:Se}
theorem SeAt.lt (h:SeAt w0 M t g vs vt C w vh ve vi vo X):w0.heap.size≤w.heap.size:=h.below.size
theorem SeAt.after (h:SeAt w0 M t g vs vt C w vh ve vi vo X) (hb:Below w.heap.size w w'):SeAt w0 M t g vs vt C w' vh ve vi vo X :=
 ⟨h.below.trans (hb.mono h.lt),h.ge,h.blk.below hb h.blk.lt,h.rows.below hb,fun k o hM=>by
  obtain ⟨h1,h2⟩:=h.prot k o hM
  exact ⟨(hb.block k (Array.getElem?_eq_some_iff.1 h1).1).trans h1,h2⟩⟩
theorem SeAt.drewN (h:SeAt w0 M t g vs vt C w vh ve vi vo X) (n:Nat):SeAt w0 M t g vs vt C (w.drewN n) vh ve vi vo X:=h.after (below_drewN (Below.refl _ _) n)
theorem SeAt.cells (h:SeAt w0 M t g vs vt C w vh ve vi vo X) :
 (w.cell? ⟨g,0,none⟩=some (.pointer (some ⟨t,0,none⟩))∧w.cell? ⟨g,1,none⟩=some (.int .i64 C.vars)∧w.cell? ⟨g,2,none⟩=some vs∧w.cell? ⟨g,3,none⟩=some vt∧w.cell? ⟨g,4,none⟩=some (.int .u32 ((bset X.a C.sts.length:Nat):Int))) ∧
 (w.cell? ⟨g,5,none⟩=some vh∧w.cell? ⟨g,6,none⟩=some ve∧w.cell? ⟨g,7,none⟩=some vi∧w.cell? ⟨g,8,none⟩=some (.int .i64 X.st)∧w.cell? ⟨g,9,none⟩=some vo) :=
 ⟨⟨h.blk.cell 0,h.blk.cell 1,h.blk.cell 2,h.blk.cell 3,h.blk.cell 4⟩,⟨h.blk.cell 5,h.blk.cell 6,h.blk.cell 7,h.blk.cell 8,h.blk.cell 9⟩⟩
theorem SeAt.froz (h:SeAt w0 M t g vs vt C w vh ve vi vo X) :
 w.frozen? ⟨g,4,none⟩=false∧w.frozen? ⟨g,5,none⟩=false∧w.frozen? ⟨g,6,none⟩=false∧w.frozen? ⟨g,7,none⟩=false∧w.frozen? ⟨g,8,none⟩=false∧w.frozen? ⟨g,9,none⟩=false :=
 ⟨h.blk.frozen 4,h.blk.frozen 5,h.blk.frozen 6,h.blk.frozen 7,h.blk.frozen 8,h.blk.frozen 9⟩
theorem SeAt.set (h:SeAt w0 M t g vs vt C w vh ve vi vo X) {vh' ve' vi' vo':Value} {X':Se} (j:Nat) (u:Value) (hcs:(stCs t C vs vt vh ve vi vo X).setIfInBounds j u=stCs t C vs vt vh' ve' vi' vo' X') (hr:RwAt w0.heap.size w vh' ve' vi' vo' X')
 (hp:∀ k o,M k=some o→vh'.ownBlock ≠ some k∧vi'.ownBlock ≠ some k∧vo'.ownBlock ≠ some k):SeAt w0 M t g vs vt C (w.setCell ⟨g,j,none⟩ u) vh' ve' vi' vo' X' :=
 ⟨h.below.setCell h.ge u,h.ge,by rw [← hcs]; exact h.blk.set_ j u,hr.apart h.blk (by decide) (by decide) (by decide) (by decide) j u,fun k o hM=>by
  obtain ⟨h1,h2,_⟩:=h.prot k o hM
  exact ⟨(Below.heap_setCell w ⟨g,j,none⟩ u k h2).trans h1,h2,hp k o hM⟩⟩
theorem SeAt.same (h:SeAt w0 M t g vs vt C w vh ve vi vo X):∀ k o,M k=some o→vh.ownBlock ≠ some k∧vi.ownBlock ≠ some k∧vo.ownBlock ≠ some k:=fun k o hM=>(h.prot k o hM).2.2
theorem SeAt.putA (h:SeAt w0 M t g vs vt C w vh ve vi vo X) (a:Nat→Bool):SeAt w0 M t g vs vt C (w.setCell ⟨g,4,none⟩ (.int .u32 ((bset a C.sts.length:Nat):Int))) vh ve vi vo (X.putA a) :=
 h.set 4 _ rfl ⟨h.rows.hist,h.rows.env,h.rows.ins,h.rows.out⟩ h.same
theorem SeAt.putSt (h:SeAt w0 M t g vs vt C w vh ve vi vo X) (n:Int):SeAt w0 M t g vs vt C (w.setCell ⟨g,8,none⟩ (.int .i64 n)) vh ve vi vo (X.putSt n) :=
 h.set 8 _ rfl ⟨h.rows.hist,h.rows.env,h.rows.ins,h.rows.out⟩ h.same
theorem SeAt.putE (h:SeAt w0 M t g vs vt C w vh ve vi vo X) {ve':Value} {E:List Int} (he:OwnEnv w0.heap.size w ve' E):SeAt w0 M t g vs vt C (w.setCell ⟨g,6,none⟩ ve') vh ve' vi vo ⟨X.a,X.hist,E,X.ins,X.st,X.out⟩ :=
 h.set 6 _ rfl (h.rows.putE he) h.same
theorem SeAt.growI (h:SeAt w0 M t g vs vt C w vh ve vi vo X) {vi':Value} {L:List Int} (hg:w.grownBy w' vi.ownBlock) (ho:w'.ownsRow w0.heap.size 3 1 vi' (X.ins.length+L.length) (intVals X.ins ++ intVals L)) (h3:vi'.ownBlock=vi.ownBlock ∨ vi'.ownBlock=some w.heap.size) :
 SeAt w0 M t g vs vt C (w'.setCell ⟨g,7,none⟩ vi') vh ve vi' vo ⟨X.a,X.hist,X.env,X.ins ++ L,X.st,X.out⟩:=by
 have ho':OwnIns w0.heap.size w' vi' (X.ins ++ L):=by
  unfold OwnIns intVals
  rw [List.map_append,List.length_append]
  exact ho
 have hb:Blk w' g 121 (stCs t C vs vt vh ve vi vo X):=blk_grown h.blk h.rows.ins (by decide) hg
 have h1:SeAt w0 M t g vs vt C w' vh ve vi vo ⟨X.a,X.hist,X.env,X.ins,X.st,X.out⟩→True:=fun _=>trivial
 refine ⟨(grown_below (g:=g) h.below h.rows.ins h.lt hg).setCell h.ge _,h.ge,hb.set_ 7 vi',(h.rows.growI hg ho').apart hb (by decide) (by decide) (by decide) (by decide) 7 vi',fun k o hM=>?_⟩
 obtain ⟨p1,p2,p3,p4,p5⟩:=h.prot k o hM
 have hk:=(Array.getElem?_eq_some_iff.1 p1).1
 refine ⟨((Below.heap_setCell w' ⟨g,7,none⟩ vi' k p2).trans (hg.block k hk (Ne.symm p4))).trans p1,p2,p3,?_,p5⟩
 rcases h3 with h3 | h3
 · rw [h3]; exact p4
 · rw [h3]
   intro hc
   injection hc with hc
   omega
theorem SeAt.growO (h:SeAt w0 M t g vs vt C w vh ve vi vo X) {vo':Value} {L:List Ou} (hg:w.grownBy w' vo.ownBlock) (ho:w'.ownsRow w0.heap.size 77 4 vo' (X.out.length+L.length) (X.out.flatMap ouCells ++ L.flatMap ouCells)) (h3:vo'.ownBlock=vo.ownBlock ∨ vo'.ownBlock=some w.heap.size) :
 SeAt w0 M t g vs vt C (w'.setCell ⟨g,9,none⟩ vo') vh ve vi vo' ⟨X.a,X.hist,X.env,X.ins,X.st,X.out ++ L⟩:=by
 have ho':OwnOuts w0.heap.size w' vo' (X.out ++ L):=by
  unfold OwnOuts
  rw [List.flatMap_append,List.length_append]
  exact ho
 have hb:Blk w' g 121 (stCs t C vs vt vh ve vi vo X):=blk_grown h.blk h.rows.out (by decide) hg
 refine ⟨(grown_below (g:=g) h.below h.rows.out h.lt hg).setCell h.ge _,h.ge,hb.set_ 9 vo',(h.rows.growO hg ho').apart hb (by decide) (by decide) (by decide) (by decide) 9 vo',fun k o hM=>?_⟩
 obtain ⟨p1,p2,p3,p4,p5⟩:=h.prot k o hM
 have hk:=(Array.getElem?_eq_some_iff.1 p1).1
 refine ⟨((Below.heap_setCell w' ⟨g,9,none⟩ vo' k p2).trans (hg.block k hk (Ne.symm p5))).trans p1,p2,p3,p4,?_⟩
 rcases h3 with h3 | h3
 · rw [h3]; exact p5
 · rw [h3]
   intro hc
   injection hc with hc
   omega
theorem SeAt.putHist {b cap k n:Nat} {cur:Array Value} (h:SeAt w0 M t g vs vt C w (.slice (some ⟨b,0,none⟩) X.hist.length cap) ve vi vo X) (hb:Blk w b 33 cur) (hB:w0.heap.size≤b) (hk:k < X.hist.length) (hn:n < 4294967296) :
 SeAt w0 M t g vs vt C (w.setCell ⟨b,k,none⟩ (.int .u32 (n:Int))) (.slice (some ⟨b,0,none⟩) (X.putH (X.hist.set k n)).hist.length cap) ve vi vo (X.putH (X.hist.set k n)):=by
 have hl:(X.putH (X.hist.set k n)).hist.length=X.hist.length:=List.length_set ..
 have hgb:g ≠ b:=fun he=>by
  have h1:=h.blk
  subst he
  unfold Blk at h1 hb
  rw [hb] at h1
  injection h1 with h1
  injection h1 with _ h5
  exact absurd h5 (by decide)
 rw [hl]
 refine ⟨h.below.setCell hB _,h.ge,(Below.heap_setCell w ⟨b,k,none⟩ _ g hgb).trans h.blk,h.rows.putHist hb hk hn,fun k' o hM=>?_⟩
 obtain ⟨p1,p2,p3,p4,p5⟩:=h.prot k' o hM
 refine ⟨(Below.heap_setCell w ⟨b,k,none⟩ _ k' (fun hc=>p3 (by rw [hc]; rfl))).trans p1,p2,p3,p4,p5⟩
theorem SeAt.also {b:Nat} {ty:TypeId} {cs:Array Value} (h:SeAt w0 M t g vs vt C w vh ve vi vo X) (hb:Blk w b ty cs) (h1:121 ≠ ty) (h2:33 ≠ ty) (h3:3 ≠ ty) (h4:77 ≠ ty) :
 SeAt w0 (fun k=>if k=b then some (.cells cs ty (0,0)) else M k) t g vs vt C w vh ve vi vo X :=
 ⟨h.below,h.ge,h.blk,h.rows,fun k o hM=>by
  by_cases hk:k=b
  · subst hk
    rw [if_pos rfl] at hM
    injection hM with hM
    subst hM
    refine ⟨hb,fun hc=>?_,RowAt.elsewhere h.rows.hist.1 hb h2,own_else h.rows.ins hb h3,own_else h.rows.out hb h4⟩
    have hg:=h.blk
    unfold Blk at hg hb
    rw [← hc,hb] at hg
    injection hg with hg
    injection hg with _ h5
    exact h1 h5.symm
  · rw [if_neg hk] at hM
    exact h.prot k o hM⟩
theorem SeAt.less {M':Nat→Option Obj} (h:SeAt w0 M' t g vs vt C w vh ve vi vo X) (hM:∀ k o,M k=some o→M' k=some o):SeAt w0 M t g vs vt C w vh ve vi vo X :=
 ⟨h.below,h.ge,h.blk,h.rows,fun k o hk=>h.prot k o (hM k o hk)⟩
theorem SeAt.less1 {b:Nat} {o:Obj} {w1:World} {vh1 ve1 vi1 vo1:Value} {X1:Se} (h:SeAt w0 (fun k=>if k=b then some o else M k) t g vs vt C w vh ve vi vo X) (h1:SeAt w0 M t g vs vt C w1 vh1 ve1 vi1 vo1 X1) (hb:w1.heap.size≤b):SeAt w0 M t g vs vt C w vh ve vi vo X :=
 h.less fun k o' hk=>by
  have:=(Array.getElem?_eq_some_iff.1 (h1.prot k o' hk).1).1
  rw [if_neg (by omega)]
  exact hk
theorem SeAt.stays {b:Nat} {ty:TypeId} {cs:Array Value} (h:SeAt w0 (fun k=>if k=b then some (.cells cs ty (0,0)) else M k) t g vs vt C w vh ve vi vo X):Blk w b ty cs:=(h.prot b _ (if_pos rfl)).1
theorem SeAt.drew (h:SeAt w0 M t g vs vt C w vh ve vi vo X):SeAt w0 M t g vs vt C w.drew vh ve vi vo X:=h.after (Below.refl _ _).drew
end
def SPost (w0:World) (M:Nat→Option Obj) (t g:Nat) (vs vt:Value) (C:Ch) (Y:Se) (e:Ending) (w':World):Prop:=e=.returned (.tuple #[])∧∃ vh ve vi vo,SeAt w0 M t g vs vt C w' vh ve vi vo Y
structure Fx (w0:World) (t:Nat) (vs vt:Value) (C:Ch):Prop where
 laid:Laid w0
 tree:TreeAt w0 t C
 has:ChHas w0 vs vt C
 chk:chk hasTB C=.ok
 few:fewB C=true
theorem Fx.tame {w0:World} {t:Nat} {vs vt:Value} {C:Ch} (h:Fx w0 t vs vt C):Tame C.sts:=tame_of h.chk
theorem Fx.rooted {w0:World} {t:Nat} {vs vt:Value} {C:Ch} (h:Fx w0 t vs vt C):Rooted C.sts:=rooted_of h.chk
theorem of_fewActs {l:List Ac} (h:fewActsB l=true):l.length≤40∧∀ a ∈ l,a.expr.size≤1000000:=by
 unfold fewActsB at h
 simp only [Bool.and_eq_true,decide_eq_true_eq] at h
 obtain ⟨h1,h2⟩:=h
 refine ⟨by omega,fun a ha=>?_⟩
 obtain ⟨i,hi⟩:=List.getElem?_of_mem ha
 have hlt:=(List.getElem?_eq_some_iff.1 hi).1
 have:=of_allU h1 i hlt
 rw [List.getD_eq_getElem?_getD,hi] at this
 have:a.expr.size≤500:=by simpa using this
 omega
theorem Fx.acts {w0:World} {t:Nat} {vs vt:Value} {C:Ch} (h:Fx w0 t vs vt C) (s:Int):((stAt C.sts s).ent.length≤40∧∀ a ∈ (stAt C.sts s).ent,a.expr.size≤1000000)∧((stAt C.sts s).exi.length≤40∧∀ a ∈ (stAt C.sts s).exi,a.expr.size≤1000000):=by
 unfold stAt
 rcases Nat.lt_or_ge s.toNat C.sts.length with hk | hk
 · have:=(few_parts h.few).2.2.1 s.toNat hk
   unfold fewStB at this
   simp only [Bool.and_eq_true,decide_eq_true_eq] at this
   exact ⟨of_fewActs this.1.1,of_fewActs this.1.2⟩
 · rw [List.getD_eq_getElem?_getD,List.getElem?_eq_none hk]
   exact ⟨⟨by decide,fun a ha=>by cases ha⟩,⟨by decide,fun a ha=>by cases ha⟩⟩
theorem wpList_append_row3 {P:Program} {w W:World} {ops:Array Oper} {rest:List Oper} {o:Oper} {a:Act} {Q:Exit→Act→World→Prop} (hw:Region.wanted o (yielded ops a.tmps)=true) (s x:Operand) (t:TypeId)
 (ho:o.op=.call { callee:=.builtin .append,args:=#[s,x],argTypes:=#[t,t] })
 (base:Nat) (e:TypeId) (i:TypeInfo) (z:Value) (size bytes:Nat) (ht:P.underlying t=some (.slice e)) (hi:P.info? e=some i) (hz:i.zero=some z)
 (hsize:i.size=size) (hby:i.bytes=bytes) (hzs:z.cells.size=size) (hsz:0 < size)
 (v:Value) (n:Nat) (xs:List Value) (hs:a.eval s=v) (hown:W.ownsRow base e size v n xs)
 (u:Value) (m:Nat) (news:List Value) (hx:a.eval x=u) (hr:RowIs w size u m news) (hb:Below w.heap.size w W)
 (h63:n+m≤maxLen) (hbytes:(n+m) * bytes≤140737488355328) (hbase:base≤W.heap.size)
 (h:∀ v' w',w'.ownsRow base e size v' (n+m) (xs ++ news)→W.grownBy w' v.ownBlock→(v'.ownBlock=v.ownBlock ∨ v'.ownBlock=some W.heap.size)→wpList P ops Q rest (a.put o.dst v') w'):wpList P ops Q (o :: rest) a W :=
 BigFrame.wpList_want hw fun K hK=>by
  have hK':∀ v' w',w'.ownsRow base e size v' (n+m) (xs ++ news)→W.grownBy w' v.ownBlock→(v'.ownBlock=v.ownBlock ∨ v'.ownBlock=some W.heap.size)→K (a.put o.dst v') w':=fun v' w' h1 h2 h3=>hK _ _ (h v' w' h1 h2 h3)
  obtain ⟨hn,⟨c,rfl,rfl⟩ | ⟨ad,cap,rfl,hc,h1⟩⟩:=hr
  · obtain rfl:news=[]:=List.eq_nil_of_length_eq_zero (by simpa using hn)
    have hrun:(Builtin.append_ #[t,t] o.type #[v,.slice none 0 c]).run P W=.ok v W:=by
     rcases hown.2 with ⟨rfl,rfl⟩ | ⟨g,cap,cur,rfl,_,_,hnc,_⟩
     · simp [Builtin.append_,run_underlying ht,sizeOf,typeInfo,hi,Builtin.lenOf,Builtin.firstCells,go_sem]
     · simp [Builtin.append_,run_underlying ht,sizeOf,typeInfo,hi,Builtin.lenOf,Builtin.firstCells,hnc,storeCells,go_sem]
    unfold Oper.wp execOp
    simp only [ho,resolve,invoke,builtin,Sem.run_bind,Sem.run_pure,Result.andThen_ok,List.map_toArray,List.map_cons,List.map_nil,hs,hx,hrun]
    exact hK' v W (by simpa using hown) ⟨rfl,rfl,rfl,Nat.le_refl _,fun _ _ _=>rfl⟩ (.inl rfl)
  · exact wp_append_at s x t ho base e i z size bytes ht hi hz hsize hby hzs hsz v n xs hs hown ad m cap news hx hn (fun j u hj=>(hb.cell (Lib.lt_of_cell (hc j u hj))).trans (hc j u hj)) h1 h63 hbytes hbase hK'
end Go.Proofs.YtmhkpjcdkjnlnaaGreatDoor
