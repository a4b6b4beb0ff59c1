/- A row of numbers of the call's own that may begin anywhere in its block: appended to, its first element taken off. No program in this text. -/
import Derived.Test.YtmhkpjcdkjnlnaaGreatDoorFUImem
import Derived.ArgAppend
import Derived.Test.YtmhkpjcdkjnlnaaGreatDoorFUHrd
import Derived.Test.YtmhkpjcdkjnlnaaGreatDoorFUMsn
namespace Go.Proofs.YtmhkpjcdkjnlnaaGreatDoor
open Go.RowKit
set_option linter.unusedVariables false

def InAt (w:World) (B:Nat) (e:TypeId) (v:Value) (L:List Int):Prop :=
 (v=.slice none 0 0∧L=[]) ∨ ∃ g o cap cur,v=.slice (some ⟨g,o,none⟩) L.length cap∧B≤g∧Blk w g e cur∧L.length≤cap∧o+cap≤cur.size∧(cur.toList.drop o).take L.length=intVals L
theorem InAt.of_own {w:World} {B:Nat} {e:TypeId} {v:Value} {n:Nat} {L:List Int} (h:w.ownsRow B e 1 v n (intVals L)):InAt w B e v L:=by
 have hn:n=L.length:=by
  have:=h.1
  unfold intVals at this
  rw [List.length_map] at this
  omega
 subst hn
 rcases h.2 with ⟨hv,h0⟩ | ⟨g,cap,cur,hv,hb,hg,hnc,_,hs,ht⟩
 · exact .inl ⟨hv,List.eq_nil_of_length_eq_zero h0⟩
 · exact .inr ⟨g,0,cap,cur,hv,hb,hg,hnc,by omega,by simpa using ht⟩
theorem InAt.cell {w:World} {g o m n cap:Nat} {e:TypeId} {cur:Array Value} {xs:List Value} (hg:Blk w g e cur) (h:(cur.toList.drop o).take n=xs) {j:Nat} {u:Value} (hj:xs[j]?=some u):w.cell? ⟨g,o+j,none⟩=some u:=by
 rw [hg.cell]
 rw [← h,List.getElem?_take] at hj
 split at hj
 · rw [List.getElem?_drop] at hj
   simpa using hj
 · cases hj
theorem InAt.list {w:World} {B:Nat} {e:TypeId} {v:Value} {L:List Int} (h:InAt w B e v L):ListAt w v L:=by
 rcases h with ⟨rfl,rfl⟩ | ⟨g,o,cap,cur,rfl,hb,hg,hnc,hs,ht⟩
 · exact ⟨none,0,rfl,Nat.le_refl _,fun i x hx=>by cases hx⟩
 · refine ⟨_,cap,rfl,hnc,fun i x hx=>⟨g,o,rfl,hg.lt,?_⟩⟩
   show w.cell? ⟨g,o+i * 1,none⟩=some (.int .i64 x)
   rw [Nat.mul_one]
   refine InAt.cell (m:=0) (cap:=0) hg ht ?_
   unfold intVals
   rw [List.getElem?_map,hx]
   rfl
theorem InAt.slice {w:World} {B:Nat} {e:TypeId} {v:Value} {L:List Int} (h:InAt w B e v L):∃ A cap,v=.slice A L.length cap:=by
 rcases h with ⟨rfl,rfl⟩ | ⟨g,o,cap,cur,rfl,_⟩
 · exact ⟨none,0,rfl⟩
 · exact ⟨_,_,rfl⟩
theorem InAt.lt {w:World} {B:Nat} {e:TypeId} {v:Value} {L:List Int} (h:InAt w B e v L):∀ k,v.ownBlock=some k→B≤k∧k < w.heap.size:=by
 intro k hk
 rcases h with ⟨rfl,rfl⟩ | ⟨g,o,cap,cur,rfl,hb,hg,_⟩
 · cases hk
 · injection hk with hk
   subst hk
   exact ⟨hb,hg.lt⟩
theorem InAt.base {w:World} {B B':Nat} {e:TypeId} {v:Value} {L:List Int} (h:InAt w B e v L) (hB:B'≤B):InAt w B' e v L:=by
 rcases h with h | ⟨g,o,cap,cur,h1,hb,h2⟩
 · exact .inl h
 · exact .inr ⟨g,o,cap,cur,h1,Nat.le_trans hB hb,h2⟩
theorem InAt.else_ {w:World} {B:Nat} {e t:TypeId} {g:Nat} {v:Value} {L:List Int} {cs:Array Value} (h:InAt w B e v L) (hg:Blk w g t cs) (het:e ≠ t):v.ownBlock ≠ some g:=by
 intro hc
 rcases h with ⟨rfl,rfl⟩ | ⟨g',o,cap,cur,rfl,hb,hg',_⟩
 · cases hc
 · injection hc with hc
   have hc:g'=g:=hc
   subst hc
   unfold Blk at hg hg'
   rw [hg] at hg'
   injection hg' with h1
   injection h1 with h2 h3
   exact het h3.symm
theorem InAt.kept {w w':World} {B:Nat} {e:TypeId} {row:Option Nat} {v:Value} {L:List Int} (h:InAt w B e v L) (hg:w.grownBy w' row) (hne:v.ownBlock=none ∨ v.ownBlock ≠ row):InAt w' B e v L:=by
 rcases h with h | ⟨g,o,cap,cur,rfl,hb,hgg,rest⟩
 · exact .inl h
 · refine .inr ⟨g,o,cap,cur,rfl,hb,hgg.grown hg ?_,rest⟩
   rcases hne with h | h
   · cases h
   · exact h
theorem InAt.below {w w':World} {B:Nat} {e:TypeId} {v:Value} {L:List Int} (h:InAt w B e v L) (hb:Below w.heap.size w w'):InAt w' B e v L:=by
 rcases h with h | ⟨g,o,cap,cur,rfl,hb1,hgg,rest⟩
 · exact .inl h
 · exact .inr ⟨g,o,cap,cur,rfl,hb1,hgg.below hb hgg.lt,rest⟩
theorem InAt.apart {w:World} {B:Nat} {e t:TypeId} {g:Nat} {v:Value} {L:List Int} {cs:Array Value} (h:InAt w B e v L) (hg:Blk w g t cs) (het:e ≠ t) (j:Nat) (u:Value):InAt (w.setCell ⟨g,j,none⟩ u) B e v L:=by
 have hne:=h.else_ hg het
 rcases h with h | ⟨g',o,cap,cur,rfl,hb1,hgg,rest⟩
 · exact .inl h
 · exact .inr ⟨g',o,cap,cur,rfl,hb1,hgg.set_ne (fun hc=>hne (by rw [← hc]; rfl)) j u,rest⟩
theorem InAt.tail {w:World} {B:Nat} {e:TypeId} {x:Int} {g o cap:Nat} {L:List Int} (h:InAt w B e (.slice (some ⟨g,o,none⟩) (L.length+1) cap) (x :: L)) :
 w.cell? ⟨g,o,none⟩=some (.int .i64 x)∧0 < cap∧InAt w B e (.slice (some ⟨g,if cap=1 then o else o+1,none⟩) L.length (cap - 1)) L:=by
 rcases h with ⟨hv,hL⟩ | ⟨g',o',cap',cur,hv,hb,hg,hnc,hs,ht⟩
 · cases hL
 · injection hv with h1 h2 h3
   injection h1 with h1
   injection h1 with h4 h5 h6
   subst h4 h5 h3
   rw [List.length_cons] at hnc ht
   have h0:w.cell? ⟨g,o+0,none⟩=some (.int .i64 x):=InAt.cell (m:=0) (cap:=0) hg ht rfl
   refine ⟨h0,by omega,.inr ⟨g,_,cap - 1,cur,rfl,hb,hg,by omega,?_,?_⟩⟩
   · split <;> omega
   · by_cases h1:cap=1
     · obtain rfl:L=[]:=List.eq_nil_of_length_eq_zero (by omega)
       rfl
     · rw [if_neg h1]
       have h7:intVals (x :: L)=.int .i64 x :: intVals L:=rfl
       rw [h7] at ht
       have h8:(cur.toList.drop o)=.int .i64 x :: cur.toList.drop (o+1):=by
        have hlt:o < cur.toList.length:=by rw [Array.length_toList]; omega
        rw [List.drop_eq_getElem_cons hlt] at ht ⊢
        rw [List.take_succ_cons] at ht
        injection ht with h9 h10
        rw [h9]
       rw [h8,List.take_succ_cons] at ht
       injection ht
section
variable {P:Program}
theorem run_append_in (w:World) (t ty:TypeId) (B:Nat) (e:TypeId) (i:TypeInfo) (z:Value) (bytes:Nat) (ht:P.underlying t=some (.slice e)) (hi:P.info? e=some i) (hz:i.zero=some z)
 (hsize:i.size=1) (hby:i.bytes=bytes) (hzs:z.cells.size=1) (v:Value) (L:List Int) (hown:InAt w B e v L)
 (ad:Addr) (c:Nat) (x:Int) (hnew:w.cell? ad=some (.int .i64 x)) (h63:L.length+1≤maxLen) (hbytes:(L.length+1) * bytes≤140737488355328) (hB:B≤w.heap.size) :
 ∃ v' w',(Builtin.append_ #[t,t] ty #[v,.slice (some ad) 1 c]).run P w=.ok v' w'∧InAt w' B e v' (L ++ [x])∧w.grownBy w' v.ownBlock∧∀ k,v'.ownBlock=some k→v.ownBlock=some k ∨ w.heap.size≤k:=by
 have hiv:intVals (L ++ [x])=intVals L ++ [.int .i64 x]:=by unfold intVals; rw [List.map_append]; rfl
 have hnews:∀ j u,[Value.int .i64 x][j]?=some u→w.cell? (ad.add j)=some u:=fun j u hj=>by
  cases j with
  | zero =>
   simp only [List.getElem?_cons_zero,Option.some.injEq] at hj
   subst hj
   have:ad.add 0=ad:=by unfold Addr.add; simp
   rw [this,hnew]
  | succ j=>simp at hj
 have hlv:(intVals L).length=L.length:=by unfold intVals; exact List.length_map _
 rcases hown with ⟨rfl,rfl⟩ | ⟨g,o,cap,cur,rfl,hb,hg,hnc,hs,htk⟩
 · obtain ⟨v',w',h1,h2,h3,-⟩:=run_append_own (P:=P) w w.heap.size t ty e i z 1 bytes ht hi hz hsize hby hzs (by decide) (.slice none 0 0) 0 [] (World.ownsRow_nil w _ e 1) ad 1 c [.int .i64 x] rfl hnews (fun u hu=>by rw [List.mem_singleton] at hu; subst hu; rfl) h63 hbytes (Nat.le_refl _)
   exact ⟨v',w',h1,(InAt.of_own (n:=0+1) h2).base hB,h3,fun k hk=>.inr (h2.lt k hk).1⟩
 · by_cases hr:L.length+1≤cap
   · have hrun := run_append_room_cells (P := P) w t ty e i ht hi g o L.length cap ad 1 c [.int .i64 x] (by rw [hsize]; rfl) hnews (fun u hu => by rw [List.mem_singleton] at hu; subst hu; rfl) hr (fun j hj => by
      have hj:j=0:=by simpa using hj
      subst hj
      rw [hg.cell,hsize]
      rw [Array.getElem?_eq_getElem (by omega)]
      rfl) (fun j hj=>hg.frozen _)
     refine ⟨_,_,hrun,?_,?_,fun k hk=>.inl hk⟩
     · refine .inr ⟨g,o,cap,cur.setIfInBounds (o+L.length * i.size) (.int .i64 x),by rw [List.length_append]; rfl,hb,?_,by rw [List.length_append]; exact hr,by rw [Array.size_setIfInBounds]; exact hs,?_⟩
       · exact hg.set_ _ _
       · rw [hsize,Nat.mul_one,List.length_append,hiv,Array.toList_setIfInBounds]
         have hcs:cur.toList.length=cur.size:=Array.length_toList
         have hlt:o+L.length < cur.toList.length:=by clear hbytes; omega
         refine List.ext_getElem? fun j=>?_
         rw [List.length_singleton,List.getElem?_take]
         by_cases hj:j < L.length+1
         · rw [if_pos hj,List.getElem?_drop]
           by_cases hj2:j=L.length
           · subst hj2
             rw [List.getElem?_set_self hlt,List.getElem?_append_right (by omega),hlv,Nat.sub_self]
             rfl
           · rw [List.getElem?_set_ne (by omega),List.getElem?_append_left (by omega),← htk,List.getElem?_take,if_pos (by omega),List.getElem?_drop]
         · rw [if_neg hj,List.getElem?_eq_none (by rw [List.length_append,hlv,List.length_singleton]; omega)]
     · refine ⟨rfl,rfl,rfl,by simp [World.setCells],fun k _ hk=>?_⟩
       exact Below.heap_setCell w ⟨g,_,none⟩ _ k (fun hc=>hk (by rw [hc]; rfl))
   · obtain ⟨v',w',h1,h2,h3⟩:=run_append_arg_grows (P:=P) w t ty e i z 1 bytes ht hi hz hsize hby hzs (by decide) ⟨g,o,none⟩ L.length cap (intVals L) (by rw [hlv]; omega) (fun j u hj=>by rw [Addr.add_lit]; exact InAt.cell (m:=0) (cap:=0) hg htk hj) ad 1 c [.int .i64 x] rfl hnews (by omega) h63 hbytes
     rw [← hiv] at h2
     exact ⟨v',w',h1,(InAt.of_own h2).base hB,⟨h3.os,h3.tape,h3.output,h3.size,fun k hk _=>h3.block k hk (by simp)⟩,fun k hk=>.inr (h2.lt k hk).1⟩
theorem wp_append_in {W:World} {o:Oper} {a:Act} {K:Act→World→Prop} {Q:Exit→Act→World→Prop} (s x:Operand) (t:TypeId)
 (ho:o.op=.call { callee:=.builtin .append,args:=#[s,x],argTypes:=#[t,t] })
 (B:Nat) (e:TypeId) (i:TypeInfo) (z:Value) (bytes:Nat) (ht:P.underlying t=some (.slice e)) (hi:P.info? e=some i) (hz:i.zero=some z)
 (hsize:i.size=1) (hby:i.bytes=bytes) (hzs:z.cells.size=1) (v:Value) (L:List Int) (hs:a.eval s=v) (hown:InAt W B e v L)
 (ad:Addr) (c:Nat) (y:Int) (hx:a.eval x=.slice (some ad) 1 c) (hnew:W.cell? ad=some (.int .i64 y)) (h63:L.length+1≤maxLen) (hbytes:(L.length+1) * bytes≤140737488355328) (hB:B≤W.heap.size)
 (h:∀ v' w',InAt w' B e v' (L ++ [y])→W.grownBy w' v.ownBlock→(∀ k,v'.ownBlock=some k→v.ownBlock=some k ∨ W.heap.size≤k)→K (a.put o.dst v') w'):o.wp P a W K Q:=by
 obtain ⟨v',w',hrun,h1,h2,h3⟩:=run_append_in (P:=P) W t o.type B e i z bytes ht hi hz hsize hby hzs v L hown ad c y hnew h63 hbytes hB
 unfold Oper.wp execOp
 simp only [ho,resolve,invoke,builtin,Sem.run_bind,Sem.run_pure,Result.andThen_ok,List.map_toArray,List.map_cons,List.map_nil,hs,hx,hrun]
 exact h v' w' h1 h2 h3
theorem wpList_append_in {W:World} {ops:Array Oper} {rest:List Oper} {o:Oper} {a:Act} {Q:Exit→Act→World→Prop} (hw:Region.wanted o (yielded ops a.tmps)=true) (s x:Operand) (t:TypeId)
 (ho:o.op=.call { callee:=.builtin .append,args:=#[s,x],argTypes:=#[t,t] })
 (B:Nat) (e:TypeId) (i:TypeInfo) (z:Value) (bytes:Nat) (ht:P.underlying t=some (.slice e)) (hi:P.info? e=some i) (hz:i.zero=some z)
 (hsize:i.size=1) (hby:i.bytes=bytes) (hzs:z.cells.size=1) (v:Value) (L:List Int) (hs:a.eval s=v) (hown:InAt W B e v L)
 (ad:Addr) (c:Nat) (y:Int) (hx:a.eval x=.slice (some ad) 1 c) (hnew:W.cell? ad=some (.int .i64 y)) (h63:L.length+1≤maxLen) (hbytes:(L.length+1) * bytes≤140737488355328) (hB:B≤W.heap.size)
 (h:∀ v' w',InAt w' B e v' (L ++ [y])→W.grownBy w' v.ownBlock→(∀ k,v'.ownBlock=some k→v.ownBlock=some k ∨ W.heap.size≤k)→wpList P ops Q rest (a.put o.dst v') w'):wpList P ops Q (o :: rest) a W :=
 BigFrame.wpList_want hw fun K hK=>wp_append_in s x t ho B e i z bytes ht hi hz hsize hby hzs v L hs hown ad c y hx hnew h63 hbytes hB fun v' w' h1 h2 h3=>hK _ _ (h v' w' h1 h2 h3)
end

section
variable (C:Ch)
def leftQ (n:Nat) (l:List Int) (m k:Nat):Bool:=(List.range m).any fun i=>l.contains (i:Int) && bitN (leftN C n (i:Int)) k
def entQ (H:List Nat) (l:List Int) (m k:Nat):Bool:=(List.range m).any fun i=>decide ((trAt C.trs (i:Int)).tgts ≠ []) && (l.contains (i:Int) && (pSet C.sts H (rchL C (i:Int)) (trAt C.trs (i:Int)).tgts).a k)
end
def actP (S:List St) (a:Nat→Bool) (h:Int):Nat→Bool:=fun k =>
 if (stAt S h).kind=5 then decide ((stAt S (k:Int)).par=(stAt S h).par) && a k else (a k && leafK S (k:Int)) && cIn S (k:Int) (stAt S h).par
def recU (S:List St) (Q a:Nat→Bool):Nat→List Nat→List Nat
 | 0,H=>H
 | m+1,H=>if histB (stAt S (m:Int)).kind=true∧Q (stAt S (m:Int)).par.toNat=true then (recU S Q a m H).set m (bset (actP S a (m:Int)) S.length) else recU S Q a m H
theorem recU_len (S:List St) (Q a:Nat→Bool):∀ (m:Nat) (H:List Nat),(recU S Q a m H).length=H.length
 | 0,H=>rfl
 | m+1,H=>by
  rw [recU]
  split
  · rw [List.length_set,recU_len S Q a m H]
  · exact recU_len S Q a m H
theorem recU_at (S:List St) (Q a:Nat→Bool) (H:List Nat):∀ (m k:Nat),k < H.length→(recU S Q a m H).getD k 0=if k < m∧histB (stAt S (k:Int)).kind=true∧Q (stAt S (k:Int)).par.toNat=true then bset (actP S a (k:Int)) S.length else H.getD k 0
 | 0,k,hk=>by rw [recU,if_neg (by omega)]
 | m+1,k,hk=>by
  have ih:=recU_at S Q a H m k hk
  rw [recU]
  split
  · rename_i hc
    by_cases hkm:k=m
    · subst hkm
      rw [if_pos ⟨by omega,hc⟩,List.getD_eq_getElem?_getD,List.getElem?_set_self (by rw [recU_len]; exact hk)]
      rfl
    · rw [List.getD_eq_getElem?_getD,List.getElem?_set_ne (Ne.symm hkm),← List.getD_eq_getElem?_getD,ih]
      have:(k < m+1)=(k < m):=by
       apply propext
       omega
      simp only [this]
  · rename_i hc
    rw [ih]
    by_cases hkm:k=m
    · subst hkm
      rw [if_neg (fun h=>by omega),if_neg (fun h=>hc h.2)]
    · have:(k < m+1)=(k < m):=by
       apply propext
       omega
      simp only [this]
theorem recU_lt {S:List St} (hl:S.length≤31) (Q a:Nat→Bool):∀ (m:Nat) (H:List Nat),(∀ x ∈ H,x < 4294967296)→∀ x ∈ recU S Q a m H,x < 4294967296
 | 0,H,h=>h
 | m+1,H,h=>by
  have ih:=recU_lt hl Q a m H h
  rw [recU]
  split
  · intro x hx
    rcases List.mem_or_eq_of_mem_set hx with hx | hx
    · exact ih x hx
    · rw [hx]; exact bset_u32 _ hl
  · exact ih
def offS (S:List St) (k:Nat) (X:Se):Se:=(doS (stAt S (k:Int)).exi X).putA fun j=>X.a j && decide (j ≠ k)
def offU (S:List St) (Q:Nat→Bool):Nat→Se→Se
 | 0,X=>X
 | d+1,X=>if Q (S.length - 1 - d)=true then offS S (S.length - 1 - d) (offU S Q d X) else offU S Q d X
theorem offS_hist (S:List St) (k:Nat) (X:Se):(offS S k X).hist=X.hist:=rfl
theorem offU_hist (S:List St) (Q:Nat→Bool):∀ (d:Nat) (X:Se),(offU S Q d X).hist=X.hist
 | 0,X=>rfl
 | d+1,X=>by
  rw [offU]
  split
  · rw [offS_hist,offU_hist S Q d X]
  · exact offU_hist S Q d X
theorem offU_a (S:List St) (Q:Nat→Bool):∀ (d:Nat) (X:Se),d≤S.length→∀ k,k < S.length→(offU S Q d X).a k=(X.a k && !(decide (S.length - d≤k) && Q k))
 | 0,X,_,k,hk=>by
  have:¬ S.length≤k:=by omega
  rw [offU]
  simp [this]
 | d+1,X,hd,k,hk=>by
  have ih:=offU_a S Q d X (by omega) k hk
  rw [offU]
  split
  · rename_i hQ
    show ((offU S Q d X).a k && decide (k ≠ S.length - 1 - d))=_
    rw [ih]
    by_cases hkd:k=S.length - 1 - d
    · have h1:S.length - (d+1)≤k:=by omega
      rw [← hkd] at hQ
      simp [hkd.symm,h1,hQ]
    · have h2:decide (S.length - (d+1)≤k)=decide (S.length - d≤k):=by simp; omega
      rw [h2]
      simp [hkd]
  · rename_i hQ
    rw [ih]
    by_cases hkd:k=S.length - 1 - d
    · have h1:Q k=false:=by rw [hkd]; simpa using hQ
      rw [h1]
      simp
    · have h2:decide (S.length - (d+1)≤k)=decide (S.length - d≤k):=by simp; omega
      rw [h2]
theorem offU_lim {S:List St} (hA:∀ s,(stAt S s).exi.length≤40) {n:Nat} {X:Se} (Q:Nat→Bool) (h:Lim n X):∀ d:Nat,Lim (n+d) (offU S Q d X)
 | 0=>h
 | d+1=>by
  have ih:=offU_lim hA Q h d
  rw [offU]
  split
  · exact putA_lim (doS_lim ih (hA _)) _
  · exact ih.mono (by omega)
def acU (R:List Tr) (l:List Int):Nat→Se→Se
 | 0,X=>X
 | m+1,X=>doS (trAt R (l.getD m 0)).acts (acU R l m X)
theorem acU_hist (R:List Tr) (l:List Int):∀ (m:Nat) (X:Se),(acU R l m X).hist=X.hist
 | 0,X=>rfl
 | m+1,X=>acU_hist R l m X
theorem acU_a (R:List Tr) (l:List Int):∀ (m:Nat) (X:Se),(acU R l m X).a=X.a
 | 0,X=>rfl
 | m+1,X=>acU_a R l m X
theorem acU_lim {R:List Tr} {l:List Int} (hA:∀ i,(trAt R i).acts.length≤40) {n:Nat} {X:Se} (h:Lim n X):∀ m:Nat,Lim (n+m) (acU R l m X)
 | 0=>h
 | m+1=>doS_lim (acU_lim hA h m) (hA _)
def lvS (S:List St) (Q:Nat→Bool) (X:Se):Se:=offU S Q S.length (X.putH (recU S Q X.a S.length X.hist))
def stpS (C:Ch) (l:List Int) (X:Se):Se :=
 let X3:=acU C.trs l l.length (lvS C.sts (leftQ C (bset X.a C.sts.length) l C.trs.length) X)
 entU C.sts (fun k=>entQ C X3.hist l C.trs.length k && !X3.a k) C.sts.length X3
theorem stpS_hist (C:Ch) (l:List Int) (X:Se):(stpS C l X).hist=recU C.sts (leftQ C (bset X.a C.sts.length) l C.trs.length) X.a C.sts.length X.hist:=by
 unfold stpS
 simp only
 rw [entU_hist,acU_hist]
 unfold lvS
 rw [offU_hist]
 rfl
theorem stpS_a (C:Ch) (l:List Int) (X:Se) {k:Nat} (hk:k < C.sts.length) :
 (stpS C l X).a k=((X.a k && !leftQ C (bset X.a C.sts.length) l C.trs.length k) || entQ C (stpS C l X).hist l C.trs.length k):=by
 have hh:(acU C.trs l l.length (lvS C.sts (leftQ C (bset X.a C.sts.length) l C.trs.length) X)).hist=(stpS C l X).hist:=by
  rw [stpS_hist,acU_hist]
  unfold lvS
  rw [offU_hist]
  rfl
 have ha:(acU C.trs l l.length (lvS C.sts (leftQ C (bset X.a C.sts.length) l C.trs.length) X)).a k=(X.a k && !leftQ C (bset X.a C.sts.length) l C.trs.length k):=by
  rw [acU_a]
  unfold lvS
  rw [offU_a _ _ _ _ (Nat.le_refl _) k hk]
  show (X.a k && _)=_
  have:C.sts.length - C.sts.length≤k:=by omega
  simp
 have he:(stpS C l X).a k=((acU C.trs l l.length (lvS C.sts (leftQ C (bset X.a C.sts.length) l C.trs.length) X)).a k || (decide (k < C.sts.length) && (entQ C (acU C.trs l l.length (lvS C.sts (leftQ C (bset X.a C.sts.length) l C.trs.length) X)).hist l C.trs.length k && !(acU C.trs l l.length (lvS C.sts (leftQ C (bset X.a C.sts.length) l C.trs.length) X)).a k))):=entU_a _ _ _ _ _
 rw [he,hh,ha,decide_eq_true hk]
 cases X.a k && !leftQ C (bset X.a C.sts.length) l C.trs.length k <;> simp
open Go.ChangeShapes Go.WideShapes Go.ChangeAt Go.RowKit

theorem bitM_any (k:Nat) (hk:k≤31) (w:World):Calls Tryz.prog 108 #[.int .i64 (k:Int)] w fun e w'=>e=.returned (.int .u32 ((2 ^ k:Nat):Int))∧w=w':=by
 have h0:decide ((k:Int) < 0)=false:=by simp
 go_enter Tryz.func108,Tryz.ntmps108
 go_wp2_with fail
 go_ret
 refine ⟨ret_int ?_,rfl⟩
 have h1:(2:Nat) ^ k≤2 ^ 31:=Nat.pow_le_pow_right (by decide) hk
 have h2:((2:Int) ^ k)=((2 ^ k:Nat):Int):=by simp
 rw [show (2:Nat) ^ 31=2147483648 by decide] at h1
 rw [h2]
 generalize 2 ^ k=m at *
 omega
theorem any_succ (P:Nat→Bool) (k:Nat):(List.range (k+1)).any P=((List.range k).any P || P k):=by rw [List.range_succ,List.any_append]; simp
theorem all_succ (P:Nat→Bool) (k:Nat):(List.range (k+1)).all P=((List.range k).all P && P k):=by rw [List.range_succ,List.all_append]; simp
theorem any_false {P:Nat→Bool} {k:Nat} (h:(List.range k).any P=false) (hp:P k=false):(List.range (k+1)).any P=false:=by rw [any_succ,h,hp]; rfl
theorem any_true {P:Nat→Bool} {k n:Nat} (h:k < n) (hp:P k=true):(List.range n).any P=true:=List.any_eq_true.2 ⟨k,List.mem_range.2 h,hp⟩
theorem all_true {P:Nat→Bool} {k:Nat} (h:(List.range k).all P=true) (hp:P k=true):(List.range (k+1)).all P=true:=by rw [all_succ,h,hp]; rfl
theorem all_false {P:Nat→Bool} {k n:Nat} (h:k < n) (hp:P k=false):(List.range n).all P=false:=List.all_eq_false.2 ⟨k,List.mem_range.2 h,by rw [hp]; simp⟩
theorem kids_any_nat (S:List St) (s:Int) (f:Int→Bool):(kids S s).any f=(List.range S.length).any fun k=>kidB S s k && f (k:Int):=by
 unfold kids kidsU
 rw [List.any_map,List.any_filter]
 rfl
theorem kids_all_nat (S:List St) (s:Int) (f:Int→Bool):(kids S s).all f=(List.range S.length).all fun k=>!kidB S s k || f (k:Int):=by
 unfold kids kidsU
 rw [List.all_map,List.all_filter]
 rfl
section
variable {w0:World} {M:Nat→Option Obj} {t g:Nat} {vs vt:Value} {C:Ch} {w:World} {vh ve vi vo:Value} {X:Se}
set_option maxHeartbeats 4000000 in
set_option maxRecDepth 100000 in
theorem hasFinal_any (hF:Fx w0 t vs vt C) (hS:SeAt w0 M t g vs vt C w vh ve vi vo X) (Q:Nat→Bool) :
 Calls Tryz.prog 180 #[.pointer (some ⟨g,0,none⟩),.int .u32 ((bset Q C.sts.length:Nat):Int)] w fun e w'=>e=.returned (.bool ((List.range C.sts.length).any fun k=>Q k && decide ((stAt C.sts (k:Int)).kind=4)))∧Below w.heap.size w w':=by
 have hlen:=hF.tame.len
 obtain ⟨sA,scap,tA,tcap,rfl,rfl⟩:=hF.has.slices
 have HS:=Lib.hid hS
 have HC:=Lib.hid hF.has
 obtain ⟨⟨x0,x1,x2,x3,x4⟩,-⟩:=hS.cells
 clear hF hS
 go_enter Tryz.func180,Tryz.ntmps180
 go_wp2_with fail
 go_loopw [13] (fun i wr=>∃ k:Nat,k≤C.sts.length∧i=.int .i64 (k:Int)∧Below w.heap.size w wr∧Hid ((List.range k).any (fun k=>Q k && decide ((stAt C.sts (k:Int)).kind=4))=false)) (fun i _=>C.sts.length - (intOf i).toNat)
 case atStart=>exact ⟨0,Nat.zero_le _,rfl,Below.refl _ _,Lib.hid rfl⟩
 case round =>
  obtain ⟨k,hk,rfl,hb,HO⟩:=hrel
  obtain ⟨wo,rfl⟩:∃ wo:World,wo=wr:=⟨_,rfl⟩
  clear x0 x1 x2 x3 x4
  by_cases hlt:k < C.sts.length
  · obtain ⟨b,o,cap',ui,ue,ux,hsl,_,hbl,hst,hhas⟩:=HC.out.st hlt
    injection hsl with e1 e2 e3
    subst e1
    obtain ⟨c0,c1,c2,c3,c4⟩:=hst.below (HS.out.below.trans (hb.mono HS.out.lt)) hbl
    obtain ⟨iA,icap,eA,ecap,xA,xcap,rfl,rfl,rfl⟩:=hhas.slices
    have hne:=(and_test Q C.sts.length k (by omega) hlt).2
    have HNO:Hid ((Q k && decide ((stAt C.sts (k:Int)).kind=4))=false→(List.range (k+1)).any (fun k=>Q k && decide ((stAt C.sts (k:Int)).kind=4))=false):=Lib.hid (fun h=>any_false HO.out h)
    have HYES:Hid ((Q k && decide ((stAt C.sts (k:Int)).kind=4))=true→(List.range C.sts.length).any (fun k=>Q k && decide ((stAt C.sts (k:Int)).kind=4))=true):=Lib.hid (fun h=>any_true hlt h)
    have HB:=Lib.hid hb
    have HBN:=Lib.hid (hb.alloc hb.size (stBox (stAt C.sts (k:Int)).kind (stAt C.sts (k:Int)).par (.slice iA (stAt C.sts (k:Int)).ini.length icap) (.slice eA (stAt C.sts (k:Int)).ent.length ecap) (.slice xA (stAt C.sts (k:Int)).exi.length xcap)))
    generalize (stAt C.sts (k:Int)).kind=K at *
    generalize (stAt C.sts (k:Int)).par=P at *
    generalize (stAt C.sts (k:Int)).ini.length=il at *
    generalize (stAt C.sts (k:Int)).ent.length=el at *
    generalize (stAt C.sts (k:Int)).exi.length=xl at *
    clear hst hhas e2 e3 hb
    cases hq:Q k with
    | false =>
     rw [hq] at hne HNO
     clear hq HYES
     go_wp2_with fail
     refine (bitM_any k (by omega) _).mono ?_
     rintro e w2 ⟨rfl,rfl⟩
     go_wp2_with fail
     go_roundw
     case rel=>exact ⟨k+1,by omega,by go_num,HBN.out,Lib.hid (HNO.out rfl)⟩
     case measure=>simp [intOf]; omega
    | true =>
     rw [hq] at hne HNO HYES
     clear hq
     by_cases hK:K=4
     · subst hK
       go_wp2_with fail
       refine (bitM_any k (by omega) _).mono ?_
       rintro e w2 ⟨rfl,rfl⟩
       go_wp2_with fail
       go_ret
       exact ⟨by rw [HYES.out rfl]; rfl,HBN.out⟩
     · have hK2:(K == 4)=false:=by simpa using hK
       have HK4:=Lib.hid (HNO.out (by simpa using hK))
       clear hK HYES HNO
       go_wp2_with fail
       refine (bitM_any k (by omega) _).mono ?_
       rintro e w2 ⟨rfl,rfl⟩
       go_wp2_with fail
       go_roundw
       case rel=>exact ⟨k+1,by omega,by go_num,HBN.out,HK4⟩
       case measure=>simp [intOf]; omega
  · obtain rfl:k=C.sts.length:=by omega
    have HB:=Lib.hid hb
    go_wp2_with fail
    go_ret
    exact ⟨by rw [HO.out]; rfl,HB.out⟩
def DoneOK (w0:World) (M:Nat→Option Obj) (t g:Nat) (vs vt:Value) (C:Ch) (vh ve vi vo:Value) (X:Se) (f:Nat):Prop :=
 ∀ (s:Int) (w:World),isSt C.sts s=true→C.sts.length < f+s.toNat→SeAt w0 M t g vs vt C w vh ve vi vo X →
  Calls Tryz.prog 146 #[.pointer (some ⟨g,0,none⟩),.int .i64 s] w fun e w'=>e=.returned (.bool (doneF C.sts X.a f s))∧Below w.heap.size w w'
set_option maxHeartbeats 4000000 in
set_option maxRecDepth 100000 in
theorem areDone_any {f:Nat} (hF:Fx w0 t vs vt C) (hD:DoneOK w0 M t g vs vt C vh ve vi vo X f) (hS:SeAt w0 M t g vs vt C w vh ve vi vo X) (Q:Nat→Bool) (hQ:∀ k,k < C.sts.length→Q k=true→C.sts.length < f+k) :
 Calls Tryz.prog 181 #[.pointer (some ⟨g,0,none⟩),.int .u32 ((bset Q C.sts.length:Nat):Int)] w fun e w'=>e=.returned (.bool ((List.range C.sts.length).all fun k=>!Q k || doneF C.sts X.a f (k:Int)))∧Below w.heap.size w w':=by
 have hlen:=hF.tame.len
 obtain ⟨sA,scap,tA,tcap,rfl,rfl⟩:=hF.has.slices
 have HS:=Lib.hid hS
 have HD:=Lib.hid hD
 have HQ:=Lib.hid hQ
 obtain ⟨⟨x0,x1,x2,x3,x4⟩,-⟩:=hS.cells
 clear hF hS hD hQ
 go_enter Tryz.func181,Tryz.ntmps181
 go_wp2_with fail
 go_loopw [12] (fun i wr=>∃ k:Nat,k≤C.sts.length∧i=.int .i64 (k:Int)∧Below w.heap.size w wr∧Hid ((List.range k).all (fun k=>!Q k || doneF C.sts X.a f (k:Int))=true)) (fun i _=>C.sts.length - (intOf i).toNat)
 case atStart=>exact ⟨0,Nat.zero_le _,rfl,Below.refl _ _,Lib.hid rfl⟩
 case round =>
  obtain ⟨k,hk,rfl,hb,HO⟩:=hrel
  obtain ⟨wo,rfl⟩:∃ wo:World,wo=wr:=⟨_,rfl⟩
  clear x0 x1 x2 x3 x4
  have HB:=Lib.hid hb
  clear hb
  by_cases hlt:k < C.sts.length
  · have hne:=(and_test Q C.sts.length k (by omega) hlt).2
    have HYES:Hid ((!Q k || doneF C.sts X.a f (k:Int))=true→(List.range (k+1)).all (fun k=>!Q k || doneF C.sts X.a f (k:Int))=true):=Lib.hid (fun h=>all_true HO.out h)
    have HNO:Hid ((!Q k || doneF C.sts X.a f (k:Int))=false→(List.range C.sts.length).all (fun k=>!Q k || doneF C.sts X.a f (k:Int))=false):=Lib.hid (fun h=>all_false hlt h)
    cases hq:Q k with
    | false =>
     rw [hq] at hne HYES
     clear hq HNO
     go_wp2_with fail
     refine (bitM_any k (by omega) _).mono ?_
     rintro e w2 ⟨rfl,rfl⟩
     go_wp2_with fail
     go_roundw
     case rel=>exact ⟨k+1,by omega,by go_num,HB.out,Lib.hid (HYES.out rfl)⟩
     case measure=>simp [intOf]; omega
    | true =>
     have HDK:=Lib.hid (HD.out (k:Int) wo (isSt_of hlt) (by have:=HQ.out k hlt hq; omega) (HS.out.after HB.out))
     rw [hq] at hne HYES HNO
     clear hq
     cases hd:doneF C.sts X.a f (k:Int) with
     | true =>
      rw [hd] at HDK HYES
      clear hd HNO
      go_wp2_with fail
      refine (bitM_any k (by omega) _).mono ?_
      rintro e w2 ⟨rfl,rfl⟩
      go_wp2_with fail
      refine HDK.out.mono ?_
      rintro e w2 ⟨rfl,hb2⟩
      have HB2:=Lib.hid (HB.out.trans (hb2.mono HB.out.size))
      clear hb2
      go_wp2_with fail
      go_roundw
      case rel=>exact ⟨k+1,by omega,by go_num,HB2.out,Lib.hid (HYES.out rfl)⟩
      case measure=>simp [intOf]; omega
     | false =>
      rw [hd] at HDK HNO
      clear hd HYES
      go_wp2_with fail
      refine (bitM_any k (by omega) _).mono ?_
      rintro e w2 ⟨rfl,rfl⟩
      go_wp2_with fail
      refine HDK.out.mono ?_
      rintro e w2 ⟨rfl,hb2⟩
      have HB2:=Lib.hid (HB.out.trans (hb2.mono HB.out.size))
      clear hb2
      go_wp2_with fail
      go_ret
      exact ⟨by rw [HNO.out rfl]; rfl,HB2.out⟩
  · obtain rfl:k=C.sts.length:=by omega
    go_wp2_with fail
    go_ret
    exact ⟨by rw [HO.out]; rfl,HB.out⟩
set_option maxHeartbeats 4000000 in
set_option maxRecDepth 100000 in
theorem isDone_ok (hF:Fx w0 t vs vt C):∀ f:Nat,DoneOK w0 M t g vs vt C vh ve vi vo X f
 | 0=>fun s w hs hf hS=>by have:=isSt_iff.1 hs; omega
 | f+1=>fun s w hs hf hS=>by
  have ih:=isDone_ok hF f
  have hta:=hF.tame
  have hlen:=hta.len
  have hs0:=(isSt_iff.1 hs).1
  have HKD:=Lib.hid (kindT_any t s C w (hF.tree.below hS.below) (by omega))
  have hkt:kindT C.sts s=(stAt C.sts s).kind:=by unfold kindT; rw [if_pos hs]
  rw [hkt] at HKD
  have HKS:=Lib.hid (tkids_any t s C w (hF.tree.below hS.below) (by omega) hs)
  have HKD2:=Lib.hid (tkids_any t s C w.drew (hF.tree.below hS.drew.below) (by omega) hs)
  have HS:=Lib.hid hS
  have HF:=Lib.hid hF
  obtain ⟨⟨x0,x1,x2,x3,x4⟩,-⟩:=hS.cells
  by_cases h2:(stAt C.sts s).kind=2
  · have HR:Hid (doneF C.sts X.a (f+1) s=(List.range C.sts.length).any fun k=>(kidB C.sts s k && X.a k) && decide ((stAt C.sts (k:Int)).kind=4)):=Lib.hid (by
     rw [doneF,if_pos h2,kids_any_nat]
     congr 1
     funext k
     rw [hasS_nat,Bool.and_assoc])
    have hand:bits .and .u32 ((bset (kidB C.sts s) C.sts.length:Nat):Int) ((bset X.a C.sts.length:Nat):Int)=((bset (fun k=>kidB C.sts s k && X.a k) C.sts.length:Nat):Int):=by
     rw [(bits_nat .u32 32 (by decide) wrap_u32 _ _ (bset_u32 _ (by omega)) (bset_u32 _ (by omega))).1,bset_and]
    have HAND:=Lib.hid hand
    have HHF:=Lib.hid (fun (W:World) (h:Below w.heap.size w W)=>hasFinal_any HF.out (HS.out.after h) (fun k=>kidB C.sts s k && X.a k))
    rw [h2] at HKD
    clear h2 hF hS hkt ih hand
    go_enter Tryz.func146,Tryz.ntmps146
    go_wp2_with fail
    refine HKD.out.mono ?_
    rintro e w1 ⟨rfl,rfl⟩
    go_wp2_with fail
    refine anyD_start (fun W=>W.cell? ⟨g,0,none⟩=some (.pointer (some ⟨t,0,none⟩))∧W.cell? ⟨g,4,none⟩=some (.int .u32 ((bset X.a C.sts.length:Nat):Int))) (fun i=>[].contains i) (by kernel_rfl) ?_
    try simp only [Act.put,sx]
    refine anyD_t 0 (.pointer (some ⟨g,0,none⟩)) ?_
    try simp only [Act.put,sx]
    refine anyD_t 1 (.pointer (some ⟨g,0,none⟩)) ?_
    try simp only [Act.put,sx]
    refine anyD_t 2 (.pointer (some ⟨g,0,none⟩)) ?_
    try simp only [Act.put,sx]
    refine anyD_t 3 (.pointer (some ⟨g,0,none⟩)) ?_
    try simp only [Act.put,sx]
    refine anyD_l 4 (.pointer (some ⟨t,0,none⟩)) (⟨x0,x4⟩) ?_
    try simp only [Act.put,sx]
    refine anyD_t 5 (.int .i64 s) ?_
    try simp only [Act.put,sx]
    refine anyD_t 7 (.pointer (some ⟨g,0,none⟩)) ?_
    try simp only [Act.put,sx]
    refine anyD_t 8 (.pointer (some ⟨g,0,none⟩)) ?_
    try simp only [Act.put,sx]
    refine anyD_t 9 (.pointer (some ⟨g,4,none⟩)) ?_
    try simp only [Act.put,sx]
    refine anyD_t 10 (.pointer (some ⟨g,4,none⟩)) ?_
    try simp only [Act.put,sx]
    refine anyD_l 11 (.int .u32 ((bset X.a C.sts.length:Nat):Int)) (⟨x0,x4⟩) ?_
    try simp only [Act.put,sx]
    refine anyD_one (i:=6) rfl rfl (by kernel_rfl) (fun K HK=>?_)
    go_simp
    refine HKD2.out.mono ?_
    rintro e w2 ⟨rfl,hb2⟩
    have HB2:Hid (Below w.heap.size w w2):=Lib.hid ((Below.refl _ _).drew.trans hb2)
    have HS2:=Lib.hid (HS.out.drew.after hb2)
    clear hb2
    go_simp
    refine HK.out _ _ (fun _ hS=>⟨HS2.out.cells.1.1,HS2.out.cells.1.2.2.2.2⟩) ?_
    clear HK K
    try simp only [Act.put,sx]
    refine anyD_one (i:=12) rfl rfl (by kernel_rfl) (fun K HK=>?_)
    go_simp
    rw [HAND.out]
    refine HK.out _ _ (fun _ hS=>⟨HS2.out.cells.1.1,HS2.out.cells.1.2.2.2.2⟩) ?_
    clear HK K
    try simp only [Act.put,sx]
    refine anyD_one (i:=13) rfl rfl (by kernel_rfl) (fun K HK=>?_)
    go_simp
    refine (HHF.out _ HB2.out).mono ?_
    rintro e w3 ⟨rfl,hb3⟩
    have HB3:=Lib.hid (HB2.out.trans (hb3.mono HB2.out.size))
    have HS3:=Lib.hid (HS2.out.after hb3)
    clear hb3
    go_simp
    refine HK.out _ _ (fun _ hS=>⟨HS3.out.cells.1.1,HS3.out.cells.1.2.2.2.2⟩) ?_
    clear HK K
    try simp only [Act.put,sx]
    refine anyD_one (i:=14) rfl rfl (by kernel_rfl) (fun K HK=>?_)
    go_simp
    refine HK.out _ _ (fun _ hS=>⟨HS3.out.cells.1.1,HS3.out.cells.1.2.2.2.2⟩) ?_
    clear HK K
    try simp only [Act.put,sx]
    refine anyD_done (by kernel_rfl) ?_
    go_wp2_with fail
    go_ret
    exact ⟨by rw [HR.out]; rfl,HB3.out⟩
  · by_cases h3:(stAt C.sts s).kind=3
    · have HR:Hid (doneF C.sts X.a (f+1) s=(List.range C.sts.length).all fun k=>!kidB C.sts s k || doneF C.sts X.a f (k:Int)):=Lib.hid (by rw [doneF,if_neg h2,if_pos h3,kids_all_nat])
      have HAD:=Lib.hid (fun (W:World) (h:Below w.heap.size w W)=>areDone_any HF.out ih (HS.out.after h) (kidB C.sts s) (fun k hk hkid=>by
       have hm:(k:Int) ∈ kids C.sts s:=by
        unfold kids kidsU
        exact List.mem_map.2 ⟨k,List.mem_filter.2 ⟨List.mem_range.2 hk,hkid⟩,rfl⟩
       have:=(hta.kid_up hs0 hm).2.2.2.1
       omega))
      rw [h3] at HKD
      clear h2 h3 hF hS hkt ih
      go_enter Tryz.func146,Tryz.ntmps146
      go_wp2_with fail
      refine HKD.out.mono ?_
      rintro e w1 ⟨rfl,rfl⟩
      go_wp2_with fail
      refine HKS.out.mono ?_
      rintro e w2 ⟨rfl,hb2⟩
      have HB2:=Lib.hid hb2
      clear hb2
      go_wp2_with fail
      refine (HAD.out _ HB2.out).mono ?_
      rintro e w3 ⟨rfl,hb3⟩
      have HB3:=Lib.hid (HB2.out.trans (hb3.mono HB2.out.size))
      clear hb3
      go_wp2_with fail
      go_ret
      exact ⟨by rw [HR.out]; rfl,HB3.out⟩
    · have HR:Hid (doneF C.sts X.a (f+1) s=false):=Lib.hid (by rw [doneF,if_neg h2,if_neg h3])
      have h2b:((stAt C.sts s).kind == 2)=false:=by simpa using h2
      have h3b:((stAt C.sts s).kind == 3)=false:=by simpa using h3
      generalize (stAt C.sts s).kind=K at *
      clear h2 h3 hF hS hkt ih
      go_enter Tryz.func146,Tryz.ntmps146
      go_wp2_with fail
      refine HKD.out.mono ?_
      rintro e w1 ⟨rfl,rfl⟩
      go_wp2_with fail
      go_ret
      exact ⟨by rw [HR.out]; rfl,Below.refl _ _⟩
end
end Go.Proofs.YtmhkpjcdkjnlnaaGreatDoor
