/- What a call of parse's reader may change, and how the reader stands in memory: its block, and the row of tokens that it writes. No function is called in this text. -/
import Derived.Test.YtgofpbdbeegoeaaGreatDoorFWZlaid
import Derived.Test.YtgofpbdbeegoeaaGreatDoorFWPpure
import Derived.RegionTactic
import Derived.BigRegion
import Derived.StillTactics
import Derived.Laws.Pointers
import Derived.Deep.RegionHeld3
import Derived.Deep.RegionLaw
import Derived.Deep.AppendLies
namespace Go.Proofs.YtgofpbdbeegoeaaGreatDoor
open Go.ChangeShapes Go.WideShapes Go.ChangeAt Go.RowKit
set_option linter.unusedVariables false

structure Kept (g:Nat) (v:Value) (w w':World) (v':Value):Prop where
 os:w'.os=w.os
 tape:w'.tape=w.tape
 output:w'.output=w.output
 size:w.heap.size≤w'.heap.size
 block:∀ i,i < w.heap.size→i ≠ g→v.ownBlock ≠ some i→w'.heap[i]?=w.heap[i]?
 row:v'.ownBlock=v.ownBlock ∨ ∀ j,v'.ownBlock=some j→w.heap.size≤j
theorem Kept.refl (g:Nat) (v:Value) (w:World):Kept g v w w v:=⟨rfl,rfl,rfl,Nat.le_refl _,fun _ _ _ _=>rfl,.inl rfl⟩
theorem Kept.trans {g:Nat} {v v1 v2:Value} {w w1 w2:World} (h:Kept g v w w1 v1) (k:Kept g v1 w1 w2 v2):Kept g v w w2 v2:=by
 refine ⟨k.os.trans h.os,k.tape.trans h.tape,k.output.trans h.output,Nat.le_trans h.size k.size,fun i hi hg hv=>?_,?_⟩
 · refine (k.block i (Nat.lt_of_lt_of_le hi h.size) hg ?_).trans (h.block i hi hg hv)
   rcases h.row with hr | hr
   · rw [hr]; exact hv
   · exact fun hj=>absurd (hr i hj) (by omega)
 · rcases k.row with kr | kr
   · rw [kr]; exact h.row
   · exact .inr fun j hj=>Nat.le_trans h.size (kr j hj)
theorem Kept.of_below {g:Nat} {w w':World} (v:Value) (h:Below w.heap.size w w'):Kept g v w w' v:=⟨h.os,h.tape,h.output,h.size,fun i hi _ _=>h.block i hi,.inl rfl⟩
theorem Kept.drewN {g:Nat} {v v':Value} {w w':World} (h:Kept g v w w' v') (n:Nat):Kept g v w (w'.drewN n) v':=⟨h.os,h.tape,h.output,h.size,h.block,h.row⟩
theorem Kept.alloc {g:Nat} {v v':Value} {w w':World} (h:Kept g v w w' v') (o:Obj):Kept g v w (w'.alloc o) v':=h.trans (Kept.of_below v' ((Below.refl _ _).alloc (Nat.le_refl _) o))
theorem Kept.set {g:Nat} {v v':Value} {w w':World} (h:Kept g v w w' v') (i:Nat) (u:Value):Kept g v w (w'.setCell ⟨g,i,none⟩ u) v' :=
 ⟨h.os,h.tape,h.output,by simpa using h.size,fun j hj hg hv=>(Below.heap_setCell w' ⟨g,i,none⟩ u j hg).trans (h.block j hj hg hv),h.row⟩
theorem Kept.grown {g:Nat} {v v1 v2:Value} {w w1 w2:World} (h:Kept g v w w1 v1) (hg:w1.grownBy w2 v1.ownBlock) (hr:v2.ownBlock=v1.ownBlock ∨ v2.ownBlock=some w1.heap.size):Kept g v w w2 v2:=by
 refine h.trans ⟨hg.os,hg.tape,hg.output,hg.size,fun i hi _ hv=>hg.block i hi (fun hc=>hv hc.symm),?_⟩
 rcases hr with hr | hr
 · exact .inl hr
 · refine .inr fun j hj=>?_
   rw [hr] at hj; injection hj with hj; omega
theorem Kept.below {g e s n B:Nat} {xs:List Value} {v v':Value} {w w':World} (h:Kept g v w w' v') (ho:w.ownsRow B e s v n xs) (hB:g < B) (hg:g≤w.heap.size):Below g w w' :=
 ⟨h.os,h.tape,h.output,h.size,fun i hi=>h.block i (by omega) (by omega) (fun hc=>by have:=(ho.lt i hc).1; omega)⟩
theorem Kept.after {g:Nat} {v v':Value} {w w1 w':World} (hb:Below w.heap.size w w1) (h:Kept g v w1 w' v'):Kept g v w w' v':=(Kept.of_below v hb).trans h

def ToksU (g:Nat) (w:World) (v:Value) (ts:List Tk):Prop :=
 ∃ (A:Option Addr) (cap:Nat),v=.slice A ts.length cap∧ts.length≤cap∧∀ (i:Nat) (t:Tk),ts[i]?=some t→∃ b o:Nat,A=some ⟨b,o,none⟩∧b < g ∧
  w.cell? ⟨b,o+i * 3,none⟩=some (.int .i64 t.1)∧w.cell? ⟨b,o+i * 3+1,none⟩=some (.int .i64 t.2.1)∧w.cell? ⟨b,o+i * 3+2,none⟩=some (.int .i64 t.2.2)
theorem ToksU.of {w:World} {v:Value} {ts:List Tk} (h:ToksAt w v ts):ToksU w.heap.size w v ts:=h
theorem ToksU.below {g:Nat} {w w':World} {v:Value} {ts:List Tk} (h:ToksU g w v ts) (hb:Below g w w'):ToksU g w' v ts:=by
 obtain ⟨A,cap,hv,hc,hi⟩:=h
 refine ⟨A,cap,hv,hc,fun i t ht=>?_⟩
 obtain ⟨b,o,hA,hlt,h0,h1,h2⟩:=hi i t ht
 exact ⟨b,o,hA,hlt,(hb.cell (p:=⟨b,_,none⟩) hlt).trans h0,(hb.cell (p:=⟨b,_,none⟩) hlt).trans h1,(hb.cell (p:=⟨b,_,none⟩) hlt).trans h2⟩

structure RSt (g:Nat) (vin:Value) (w:World) (k:Nat) (v:Value) (o:List Tk):Prop where
 blk:Blk w g 194 #[vin,.int .i64 k,v]
 own:w.ownsRow (g+1) 198 3 v o.length (tksCells o)
theorem RSt.kept {g k:Nat} {vin v:Value} {w w':World} {o:List Tk} (h:RSt g vin w k v o) (hb:Below w.heap.size w w'):RSt g vin w' k v o:=⟨h.blk.below hb h.blk.lt,own_below h.own hb⟩
theorem RSt.drewN {g k:Nat} {vin v:Value} {w:World} {o:List Tk} (h:RSt g vin w k v o) (n:Nat):RSt g vin (w.drewN n) k v o:=⟨h.blk.drewN n,h.own⟩
theorem own_set {w:World} {base:Nat} {e:TypeId} {size:Nat} {v:Value} {n:Nat} {xs:List Value} {g:Nat} (h:w.ownsRow base e size v n xs) (i:Nat) (u:Value) (hg:g < base):(w.setCell ⟨g,i,none⟩ u).ownsRow base e size v n xs:=by
 refine ⟨h.1,?_⟩
 rcases h.2 with h2 | ⟨g',cap,cur,hv,hb,hc,hrest⟩
 · exact .inl h2
 · exact .inr ⟨g',cap,cur,hv,hb,(Below.heap_setCell w ⟨g,i,none⟩ u g' (by simp; omega)).trans hc,hrest⟩
theorem RSt.at_ {g k:Nat} {vin v:Value} {w:World} {o:List Tk} (h:RSt g vin w k v o) (k':Nat):RSt g vin (w.setCell ⟨g,1,none⟩ (.int .i64 k')) k' v o :=
 ⟨h.blk.set_ 1 _,own_set h.own _ _ (Nat.lt_succ_self g)⟩
theorem RSt.below {g k:Nat} {vin v:Value} {w:World} {o:List Tk} (h:RSt g vin w k v o) {v':Value} {w':World} (hk:Kept g v w w' v'):Below g w w':=hk.below h.own (Nat.lt_succ_self g) (Nat.le_of_lt h.blk.lt)
theorem RSt.lt {g k:Nat} {vin v:Value} {w:World} {o:List Tk} (h:RSt g vin w k v o):g < w.heap.size:=h.blk.lt
def RPost (g:Nat) (vin:Value) (R:Res) (v:Value) (w:World) (e:Ending) (w':World):Prop :=
 match R with
 | .ok k o=>e=.returned (.bool true)∧∃ v',Kept g v w w' v'∧RSt g vin w' k v' o
 | .bad k=>e=.returned (.bool false)∧∃ v' o,Kept g v w w' v'∧RSt g vin w' k v' o
def Reads (ts:List Tk) (g:Nat) (vin:Value) (n lv F:Nat):Prop :=
 ∀ (k:Nat) (out:List Tk) (R:Res) (v:Value) (w:World),rd ts n lv k out=some R→k≤ts.length→out.length≤k→ToksU g w vin ts→RSt g vin w k v out →
  Calls Tryz.prog F #[.pointer (some ⟨g,0,none⟩)] w (RPost g vin R v w)

theorem drewN_two (w:World) (a b:Nat):(w.drewN a).drewN b=w.drewN (a+b):=by simp [World.drewN,Nat.add_assoc]
theorem kind_end (g:Nat) (vin v:Value) (ts:List Tk) (w:World) (A:Option Addr) (cap:Nat) (hv:vin=.slice A ts.length cap) (hB:Blk w g 194 #[vin,.int .i64 ts.length,v]) (hl:ts.length≤1000000) :
 Calls Tryz.prog 217 #[.pointer (some ⟨g,0,none⟩)] w fun e w'=>e=.returned (.int .i64 0)∧∃ n,w'=w.drewN n:=by
 subst hv
 obtain ⟨⟨c0,c1,c2⟩,_⟩:=hB.facts3
 have hd:decide (ts.length=ts.length)=true:=by simp
 clear hB
 go_enter Tryz.func217,Tryz.ntmps217
 go_wp2
 go_quiet (fail)
 go_wp2
 go_ret
 exact ⟨rfl,_,rfl⟩
theorem kind_here (g k b o cap:Nat) (v:Value) (ts:List Tk) (x:Int) (w:World) (hB:Blk w g 194 #[.slice (some ⟨b,o,none⟩) ts.length cap,.int .i64 k,v]) (hk:k < ts.length) (hl:ts.length≤1000000) (hx:w.cell? ⟨b,o+k * 3,none⟩=some (.int .i64 x)) :
 Calls Tryz.prog 217 #[.pointer (some ⟨g,0,none⟩)] w fun e w'=>e=.returned (.int .i64 x)∧∃ n,w'=w.drewN n:=by
 obtain ⟨⟨c0,c1,c2⟩,_⟩:=hB.facts3
 have hne:((k:Int) == (ts.length:Int))=false:=by simp; omega
 have hne':(k == ts.length)=false:=by simp; omega
 have hd:decide (k=ts.length)=false:=by simp; omega
 have hk':(k:Int) < (ts.length:Int):=by omega
 clear hB
 go_enter Tryz.func217,Tryz.ntmps217
 go_wp2
 go_quiet (fail)
 go_wp2
 go_quiet (fail)
 go_wp2
 go_ret
 exact ⟨rfl,_,drewN_two _ _ _⟩
theorem kind_any (ts:List Tk) (g k:Nat) (vin v:Value) (w:World) (o:List Tk) (hT:ToksU g w vin ts) (hS:RSt g vin w k v o) (hk:k≤ts.length) (hl:ts.length≤1000000) :
 Calls Tryz.prog 217 #[.pointer (some ⟨g,0,none⟩)] w fun e w'=>e=.returned (.int .i64 (knd ts k))∧∃ n,w'=w.drewN n:=by
 obtain ⟨A,cap,hv,hc,hi⟩:=hT
 rcases Nat.lt_or_ge k ts.length with hlt | hge
 · obtain ⟨b,o,rfl,hb,c0,c1,c2⟩:=hi k ts[k] (List.getElem?_eq_getElem hlt)
   rw [knd_at (List.getElem?_eq_getElem hlt)]
   subst hv
   exact kind_here g k b o cap v ts _ w hS.blk hlt hl c0
 · obtain rfl:k=ts.length:=by omega
   rw [knd_end]
   exact kind_end g vin v ts w A cap hv hS.blk hl

def byteAt (ts:List Tk) (len k:Nat):Int:=(ts[k]?.map fun t=>t.2.2).getD len
theorem byteIn_end (g:Nat) (s:ByteArray) (vin v:Value) (ts:List Tk) (w:World) (A:Option Addr) (cap:Nat) (hv:vin=.slice A ts.length cap) (hB:Blk w g 194 #[vin,.int .i64 ts.length,v]) (hl:ts.length≤1000000) (hs:s.size≤1000000) :
 Calls Tryz.prog 178 #[.pointer (some ⟨g,0,none⟩),.string s] w fun e w'=>e=.returned (.int .i64 s.size)∧∃ n,w'=w.drewN n:=by
 subst hv
 obtain ⟨⟨c0,c1,c2⟩,_⟩:=hB.facts3
 have hd:decide (ts.length=ts.length)=true:=by simp
 clear hB
 go_enter Tryz.func178,Tryz.ntmps178
 go_wp2
 go_quiet (fail)
 go_wp2
 go_ret
 exact ⟨rfl,_,rfl⟩
theorem byteIn_here (g k b o cap:Nat) (s:ByteArray) (v:Value) (ts:List Tk) (x:Int) (w:World) (hB:Blk w g 194 #[.slice (some ⟨b,o,none⟩) ts.length cap,.int .i64 k,v]) (hk:k < ts.length) (hl:ts.length≤1000000) (hs:s.size≤1000000) (hx:w.cell? ⟨b,o+k * 3+2,none⟩=some (.int .i64 x)) :
 Calls Tryz.prog 178 #[.pointer (some ⟨g,0,none⟩),.string s] w fun e w'=>e=.returned (.int .i64 x)∧∃ n,w'=w.drewN n:=by
 obtain ⟨⟨c0,c1,c2⟩,_⟩:=hB.facts3
 have hne:((k:Int) == (ts.length:Int))=false:=by simp; omega
 have hne':(k == ts.length)=false:=by simp; omega
 have hd:decide (k=ts.length)=false:=by simp; omega
 have hk':(k:Int) < (ts.length:Int):=by omega
 clear hB
 go_enter Tryz.func178,Tryz.ntmps178
 go_wp2
 go_quiet (fail)
 go_wp2
 go_quiet (fail)
 go_wp2
 go_ret
 exact ⟨rfl,_,drewN_two _ _ _⟩
theorem byteIn_any (ts:List Tk) (g k:Nat) (s:ByteArray) (vin v:Value) (w:World) (o:List Tk) (hT:ToksU g w vin ts) (hS:RSt g vin w k v o) (hk:k≤ts.length) (hl:ts.length≤1000000) (hs:s.size≤1000000) :
 Calls Tryz.prog 178 #[.pointer (some ⟨g,0,none⟩),.string s] w fun e w'=>e=.returned (.int .i64 (byteAt ts s.size k))∧∃ n,w'=w.drewN n:=by
 obtain ⟨A,cap,hv,hc,hi⟩:=hT
 rcases Nat.lt_or_ge k ts.length with hlt | hge
 · obtain ⟨b,o,rfl,hb,c0,c1,c2⟩:=hi k ts[k] (List.getElem?_eq_getElem hlt)
   have h:byteAt ts s.size k=ts[k].2.2:=by unfold byteAt; rw [List.getElem?_eq_getElem hlt]; rfl
   rw [h]
   subst hv
   exact byteIn_here g k b o cap s v ts _ w hS.blk hlt hl hs c2
 · obtain rfl:k=ts.length:=by omega
   have h:byteAt ts s.size ts.length=s.size:=by unfold byteAt; rw [List.getElem?_eq_none (Nat.le_refl _)]; rfl
   rw [h]
   exact byteIn_end g s vin v ts w A cap hv hS.blk hl hs

def IntsAt (w:World) (b:Nat) (xs:List Int):Prop:=∀ (i:Nat) (x:Int),xs[i]?=some x→w.cell? ⟨b,i,none⟩=some (.int .i64 x)
theorem index_yes (xs:List Int) (b cap:Nat) (x:Int) (w:World) (hx:IntsAt w b xs) (hl:xs.length≤1000000) (hm:x ∈ xs) :
 Calls Tryz.prog 75 #[.slice (some ⟨b,0,none⟩) xs.length cap,.int .i64 x] w fun e w'=>(∃ k:Nat,e=.returned (.int .i64 k))∧w=w':=by
 have HX:=Lib.hid hx
 have HM:=Lib.hid hm
 clear hx hm
 go_enter Tryz.func75,Tryz.ntmps75
 go_wp2
 go_loop [8] (fun i=>∃ k:Nat,k≤xs.length∧i=.int .i64 k∧Hid (∀ j y,j < k→xs[j]?=some y→y ≠ x)) (fun i=>xs.length - (intOf i).toNat)
 case atStart=>exact ⟨0,Nat.zero_le _,rfl,Lib.hid (fun j y h=>by omega)⟩
 case round =>
  obtain ⟨k,hk,rfl,hno⟩:=hrel
  by_cases hlt:k < xs.length
  · have c:=HX.out k xs[k] (List.getElem?_eq_getElem hlt)
    have HE:=Lib.hid (List.getElem?_eq_getElem hlt)
    generalize xs[k]=y at *
    by_cases hy:x=y
    · subst hy
      go_wp2
      go_ret
      exact ⟨⟨k,rfl⟩,rfl⟩
    · have hy':(x == y)=false:=by simpa using hy
      have HY:=Lib.hid hy
      clear hy
      go_wp2
      go_round
      case rel=>exact ⟨k+1,by omega,by go_num,Lib.hid (fun j z hj hz=>by
       by_cases hjk:j=k
       · subst hjk; rw [HE.out] at hz; injection hz with hz; subst hz; exact fun h=>HY.out h.symm
       · exact hno.out j z (by omega) hz)⟩
      case measure=>simp [intOf]; omega
  · exfalso
    obtain ⟨j,hj⟩:=List.getElem?_of_mem HM.out
    have:=(List.getElem?_eq_some_iff.1 hj).1
    exact hno.out j x (by omega) hj rfl
theorem index_no (xs:List Int) (b cap:Nat) (x:Int) (w:World) (hx:IntsAt w b xs) (hl:xs.length≤1000000) (hm:x ∉ xs) :
 Calls Tryz.prog 75 #[.slice (some ⟨b,0,none⟩) xs.length cap,.int .i64 x] w fun e w'=>e=.returned (.int .i64 (-1))∧w=w':=by
 have HX:=Lib.hid hx
 have HM:=Lib.hid hm
 clear hx hm
 go_enter Tryz.func75,Tryz.ntmps75
 go_wp2
 go_loop [8] (fun i=>∃ k:Nat,k≤xs.length∧i=.int .i64 k) (fun i=>xs.length - (intOf i).toNat)
 case atStart=>exact ⟨0,Nat.zero_le _,rfl⟩
 case round =>
  obtain ⟨k,hk,rfl⟩:=hrel
  by_cases hlt:k < xs.length
  · have c:=HX.out k xs[k] (List.getElem?_eq_getElem hlt)
    have hy:x ≠ xs[k]:=fun h=>HM.out (by rw [h]; exact List.getElem_mem hlt)
    have hy':(x == xs[k])=false:=by simpa using hy
    clear hy
    generalize xs[k]=y at *
    go_wp2
    go_round
    case rel=>exact ⟨k+1,by omega,by go_num⟩
    case measure=>simp [intOf]; omega
  · go_wp2
    go_ret
    exact ⟨rfl,rfl⟩
def hasB (xs:List Int) (x:Int):Bool:=decide (x ∈ xs)
theorem contains_any (xs:List Int) (b cap:Nat) (x:Int) (w:World) (hx:IntsAt w b xs) (hl:xs.length≤1000000) :
 Calls Tryz.prog 37 #[.slice (some ⟨b,0,none⟩) xs.length cap,.int .i64 x] w fun e w'=>e=.returned (.bool (hasB xs x))∧w=w':=by
 by_cases hm:x ∈ xs
 · have h:hasB xs x=true:=by simpa [hasB] using hm
   rw [h]
   have HM:=Lib.hid hm
   have HX:=Lib.hid hx
   clear hm hx h
   go_enter Tryz.func37,Tryz.ntmps37
   go_wp2_with fail
   refine (index_yes xs b cap x w HX.out hl HM.out).mono ?_
   rintro e w' ⟨⟨k,rfl⟩,rfl⟩
   go_wp2
   go_ret
   exact ⟨rfl,rfl⟩
 · have h:hasB xs x=false:=by simpa [hasB] using hm
   rw [h]
   have HM:=Lib.hid hm
   have HX:=Lib.hid hx
   clear hm hx h
   go_enter Tryz.func37,Tryz.ntmps37
   go_wp2_with fail
   refine (index_no xs b cap x w HX.out hl HM.out).mono ?_
   rintro e w' ⟨rfl,rfl⟩
   go_wp2
   go_ret
   exact ⟨rfl,rfl⟩

def opR (kd:Int):Res→Res
 | .ok k o=>.ok k (o ++ [(kd,0,0)])
 | .bad k=>.bad k
theorem thenR_op {r:Option Res} {kd:Int} {R:Res} (h:thenR r (fun k o=>some (.ok k (o ++ [(kd,0,0)])))=some R):∃ R1,r=some R1∧R=opR kd R1:=by
 rcases thenR_some h with ⟨k,h1,rfl⟩ | ⟨k,o,h1,h2⟩
 · exact ⟨_,h1,rfl⟩
 · injection h2 with h2; exact ⟨_,h1,h2.symm⟩
theorem slice_of_own {w:World} {B:Nat} {e:TypeId} {s n:Nat} {v:Value} {xs:List Value} (h:w.ownsRow B e s v (n+1) xs):∃ g cap,v=.slice (some ⟨g,0,none⟩) (n+1) cap:=by
 rcases h.2 with ⟨_,h⟩ | ⟨a,b,_,h,_⟩
 · omega
 · exact ⟨a,b,h⟩
theorem Blk.grown {w w':World} {g:Nat} {t:TypeId} {cs:Array Value} {row:Option Nat} (h:Blk w g t cs) (hg:w.grownBy w' row) (hr:some g ≠ row):Blk w' g t cs:=(hg.block g h.lt hr).trans h
theorem RSt.put {g k:Nat} {vin v v':Value} {w w':World} {o:List Tk} {t:Tk} (h:RSt g vin w k v o) (hg:w.grownBy w' v.ownBlock) (ho:w'.ownsRow (g+1) 198 3 v' (o.length+1) (tksCells o ++ tkCells t)):RSt g vin (w'.setCell ⟨g,2,none⟩ v') k v' (o ++ [t]):=by
 have hne:some g ≠ v.ownBlock:=fun hc=>by have:=(h.own.lt g hc.symm).1; omega
 exact ⟨(h.blk.grown hg hne).set_ 2 v',own_set (own_snoc ho) 2 v' (Nat.lt_succ_self g)⟩

def Enters (F:Nat):Prop:=∀ (args:Array Value) (w:World),Sem.run Tryz.prog (callFunc F args) w=.ok (.enter F args) w
theorem enters_of {F : Nat} {fn : Func} {c : Code} (hf : Tryz.prog.funcs[F]? = some fn) (hn : (fn.name == "runtime.NumGoroutine") = false) (hb : fn.body = some c) : Enters F := fun args w => by
 simp only [beq_eq_false_iff_ne,ne_eq] at hn
 simp [callFunc,go_sem,hf,hn,hb]
theorem enters52:Enters 207:=enters_of Tryz.func207 (by kernel_rfl) rfl
set_option maxHeartbeats 1000000 in
set_option maxRecDepth 100000 in
theorem operator_ok (ts:List Tk) (g F k k':Nat) (kd:Int) (vin v:Value) (out o':List Tk) (w:World) (hk:k+1≤1000000) (hS:RSt g vin w k v out) (ho:o'.length≤1000000) (hE:Enters F)
 (HF:∀ w0,w0=w.setCell ⟨g,1,none⟩ (.int .i64 (k+1:Nat))→Calls Tryz.prog F #[.pointer (some ⟨g,0,none⟩)] w0 (RPost g vin (.ok k' o') v w0)) :
 Calls Tryz.prog 218 #[.pointer (some ⟨g,0,none⟩),.func (.func F) #[.pointer (some ⟨g,0,none⟩)] #[],.int .i64 kd] w (RPost g vin (.ok k' (o' ++ [(kd,0,0)])) v w):=by
 obtain ⟨i0,hi,hz0,hz1,hz2⟩:=info_parts Tryz.info40
 have HI:=Lib.hid hi
 have HZ0:=Lib.hid hz0
 have HZ1:=Lib.hid hz1
 have HZ2:=Lib.hid hz2
 have HH:=Lib.hid HF
 have HS:=Lib.hid hS
 obtain ⟨⟨c0,c1,c2⟩,f0,f1,f2⟩:=hS.blk.facts3
 clear hi hz0 hz1 hz2 HF hS
 unfold Enters at hE
 go_enter Tryz.func218,Tryz.ntmps218
 go_wp2_with fail
 refine (HH.out _ (by go_num)).mono ?_
 rintro e w1 ⟨rfl,v1,hk1,hS1⟩
 have HK:=Lib.hid (((Kept.refl g v w).set 1 _).trans hk1)
 have HS1:=Lib.hid hS1
 have hg:=hS1.lt
 obtain ⟨⟨d0,d1,d2⟩,e0,e1,e2⟩:=hS1.blk.facts3
 clear c0 c1 c2 f0 f1 f2 hk1 hS1
 go_wp2_with (at_builtin; refine wpList_append_own_at _ rfl _ _ 173 rfl (g+1) 198 i0 (.agg #[.int .i64 0,.int .i64 0,.int .i64 0]) 3 24 Tryz.underlying173 HI.out HZ0.out HZ1.out HZ2.out rfl (by decide) _ _ _ rfl (HS1.out.own.alloc _) ⟨w1.heap.size,0,none⟩ 1 1 (tkCells (kd,0,0)) rfl rfl ?c1 ?c2 ?c3 ?c4 ?c5 ?_)
 case c1=>exact new_cells _ _ (kd,0,0) _ rfl
 case c2=>exact tk_one _
 case c3=>unfold maxLen; omega
 case c4=>omega
 case c5=>simp; omega
 intro v2 w2 hown hgrow _ hrow
 obtain ⟨g2,cap2,rfl⟩:=slice_of_own hown
 have HA:=Lib.hid ((HS1.out.kept ((Below.refl _ _).alloc (Nat.le_refl _) _)).put hgrow hown)
 have HB:=Lib.hid (((HK.out.alloc _).grown hgrow (by simpa using hrow)).set 2 (.slice (some ⟨g2,0,none⟩) (o'.length+1) cap2))
 have hne:some g ≠ v1.ownBlock:=fun hc=>by have:=(HS1.out.own.lt g hc.symm).1; omega
 obtain ⟨⟨d0,d1,d2⟩,e0,e1,e2⟩:=((HS1.out.blk.alloc _).grown hgrow hne).facts3
 clear hown hgrow hrow hne
 go_wp2
 go_ret
 exact ⟨rfl,_,HB.out,HA.out⟩
set_option maxHeartbeats 1000000 in
set_option maxRecDepth 100000 in
theorem operator_bad (ts:List Tk) (g F k k':Nat) (kd:Int) (vin v:Value) (out:List Tk) (w:World) (hk:k+1≤1000000) (hS:RSt g vin w k v out) (hE:Enters F)
 (HF:∀ w0,w0=w.setCell ⟨g,1,none⟩ (.int .i64 (k+1:Nat))→Calls Tryz.prog F #[.pointer (some ⟨g,0,none⟩)] w0 (RPost g vin (.bad k') v w0)) :
 Calls Tryz.prog 218 #[.pointer (some ⟨g,0,none⟩),.func (.func F) #[.pointer (some ⟨g,0,none⟩)] #[],.int .i64 kd] w (RPost g vin (.bad k') v w):=by
 have HH:=Lib.hid HF
 have HS:=Lib.hid hS
 obtain ⟨⟨c0,c1,c2⟩,f0,f1,f2⟩:=hS.blk.facts3
 clear HF hS
 unfold Enters at hE
 go_enter Tryz.func218,Tryz.ntmps218
 go_wp2_with fail
 refine (HH.out _ (by go_num)).mono ?_
 rintro e w1 ⟨rfl,v1,o1,hk1,hS1⟩
 have HK:=Lib.hid (((Kept.refl g v w).set 1 _).trans hk1)
 have HS1:=Lib.hid hS1
 clear c0 c1 c2 f0 f1 f2 hk1 hS1
 go_wp2
 go_ret
 exact ⟨rfl,_,_,HK.out,HS1.out⟩
theorem operator_any (ts:List Tk) (g F n lv k:Nat) (kd:Int) (vin v:Value) (out:List Tk) (R:Res) (w:World) (hF:Reads ts g vin n lv F) (hE:Enters F) (hk:k+1≤ts.length) (hl:ts.length≤1000) (ho:out.length≤k)
 (hT:ToksU g w vin ts) (hS:RSt g vin w k v out) (hR:thenR (rd ts n lv (k+1) out) (fun k o=>some (.ok k (o ++ [(kd,0,0)])))=some R) :
 Calls Tryz.prog 218 #[.pointer (some ⟨g,0,none⟩),.func (.func F) #[.pointer (some ⟨g,0,none⟩)] #[],.int .i64 kd] w (RPost g vin R v w):=by
 obtain ⟨R1,h1,rfl⟩:=thenR_op hR
 have hb:Below g w (w.setCell ⟨g,1,none⟩ (.int .i64 (k+1:Nat))):=(Below.refl _ _).setCell (by simp) _
 have h:=hF (k+1) out R1 v _ h1 hk (by omega) (hT.below hb) (hS.at_ (k+1))
 have hf:=rd_fits ts n lv (k+1) out R1 h1 hk
 cases R1 with
 | ok k' o'=>exact operator_ok ts g F k k' kd vin v out o' w (by omega) hS (by unfold Fits at hf; omega) hE (fun w0 h0=>h0 ▸ h)
 | bad k'=>exact operator_bad ts g F k k' kd vin v out w (by omega) hS hE (fun w0 h0=>h0 ▸ h)

theorem Blk.drew {w:World} {g:Nat} {t:TypeId} {cs:Array Value} (h:Blk w g t cs):Blk w.drew g t cs:=h
set_option maxHeartbeats 2000000 in
set_option maxRecDepth 100000 in
theorem operand_here (ts:List Tk) (g k b o cap:Nat) (v:Value) (x y z:Int) (out:List Tk) (w:World) (hS:RSt g (.slice (some ⟨b,o,none⟩) ts.length cap) w k v out) (hk:k < ts.length) (hl:ts.length≤1000) (ho:out.length≤k) (hb:b < g)
 (h0:w.cell? ⟨b,o+k * 3,none⟩=some (.int .i64 x)) (h1:w.cell? ⟨b,o+k * 3+1,none⟩=some (.int .i64 y)) (h2:w.cell? ⟨b,o+k * 3+2,none⟩=some (.int .i64 z)) :
 Calls Tryz.prog 260 #[.pointer (some ⟨g,0,none⟩)] w fun e w'=>e=.returned (.tuple #[])∧∃ v',Kept g v w w' v'∧RSt g (.slice (some ⟨b,o,none⟩) ts.length cap) w' (k+1) v' (out ++ [(x,y,0)]):=by
 obtain ⟨i0,hi,hz0,hz1,hz2⟩:=info_parts Tryz.info40
 have HI:=Lib.hid hi
 have HZ0:=Lib.hid hz0
 have HZ1:=Lib.hid hz1
 have HZ2:=Lib.hid hz2
 have HS:=Lib.hid hS
 obtain ⟨⟨c0,c1,c2⟩,f0,f1,f2⟩:=hS.blk.facts3
 have hg:=hS.lt
 have hbw:b < w.heap.size:=by omega
 have hk0:(0:Int)≤(k:Int):=Int.natCast_nonneg _
 have hk1:(k:Int) < (ts.length:Int):=by omega
 clear hi hz0 hz1 hz2 hS
 go_enter Tryz.func260,Tryz.ntmps260
 go_wp2_with fail
 go_region
 all_goals go_wp2_with fail
 clear c0 c1 c2 f0 f1 f2 h0 h1 h2
 have hv:v.ownBlock ≠ some w.heap.size:=fun hc=>by have:=(HS.out.own.lt _ hc).2; omega
 have hvg:v.ownBlock ≠ some g:=fun hc=>by have:=(HS.out.own.lt _ hc).1; omega
 have hs1:(w.setCell ⟨g,1,none⟩ (.int .i64 ((k:Int)+1))).heap.size=w.heap.size:=by simp
 have HS1:=Lib.hid (((HS.out.at_ (k+1)).kept ((Below.refl _ _).alloc (Nat.le_refl _) (.cells #[.int .i64 x,.int .i64 y,.int .i64 z] 198))).drewN 1)
 have HM:=Lib.hid ((Blk.new_at (w.setCell ⟨g,1,none⟩ (.int .i64 ((k:Int)+1))) 198 #[.int .i64 x,.int .i64 y,.int .i64 z] w.heap.size hs1).drewN 1)
 have HK:=Lib.hid ((((Kept.refl g v w).set 1 (.int .i64 ((k:Int)+1))).alloc (.cells #[.int .i64 x,.int .i64 y,.int .i64 z] 198)).drewN 1)
 clear hs1
 generalize hw1:((w.setCell ⟨g,1,none⟩ (.int .i64 ((k:Int)+1))).alloc (.cells #[.int .i64 x,.int .i64 y,.int .i64 z] 198)).drew=w1
 have HS2:Hid (RSt g (.slice (some ⟨b,o,none⟩) ts.length cap) w1 (k+1) v out):=Lib.hid (by subst hw1; exact HS1.out)
 have HM2:Hid (Blk w1 w.heap.size 198 #[.int .i64 x,.int .i64 y,.int .i64 z]):=Lib.hid (by subst hw1; exact HM.out)
 have HK2:Hid (Kept g v w w1 v):=Lib.hid (by subst hw1; exact HK.out)
 clear hw1 HS1 HM HK
 have hm:=HM2.out.lt
 generalize w.heap.size=m at *
 have hg1:g < w1.heap.size:=HS2.out.lt
 obtain ⟨⟨_,_,d2⟩,_,_,e2⟩:=HS2.out.blk.facts3
 obtain ⟨⟨a0,a1,a2⟩,_⟩:=HM2.out.facts3
 have hfz:=(HS2.out.blk.alloc (.cells #[.int .i64 x,.int .i64 y,.int .i64 0] 198)).frozen 2
 go_region_law
  ((refine step_append_lies _ (by rfl) _ _ _ (by rfl) (g+1) 198 i0 _ 3 24 Tryz.underlying173 HI.out HZ0.out HZ1.out HZ2.out rfl (by omega) v out.length (tksCells out) (by rfl) ((HS2.out.own.alloc _).drew)
     ⟨w1.heap.size,0,none⟩ 1 1 (tkCells (x,y,0)) (by rfl) (by rfl) (World.news_of_block (cs:=#[.int .i64 x,.int .i64 y,.int .i64 0]) (t:=198) (fr:=(0,0)) (heap_alloc_new w1 _)) (tk_one _)
     (by omega) (by unfold maxLen; omega) (by omega) (by simp; omega) (w1.heap.size+1) (by simp) ?_; intro gg cap1 w2 hown1 hgrow hat hlt; obtain ⟨⟨_,_,p2⟩,_,_,q2⟩:=((HS2.out.blk.alloc _).drew.grown hgrow (Ne.symm hvg)).facts3))
 all_goals
  have HA:=Lib.hid (((HS2.out.kept ((Below.refl _ _).alloc (Nat.le_refl _) _)).drewN 1).put hgrow hown1)
  have HB:=Lib.hid ((((HK2.out.alloc _).drewN 1).grown hgrow (v2:=.slice (some ⟨gg,0,none⟩) (out.length+1) cap1) (by rcases hat with h | h; exact .inl h.symm; right; rw [h]; simp [Value.ownBlock])).set 2 (.slice (some ⟨gg,0,none⟩) (out.length+1) cap1))
  go_wp2_with fail
  go_end0
  exact ⟨rfl,_,HB.out,HA.out⟩
theorem operand_any (ts:List Tk) (g k:Nat) (vin v:Value) (out:List Tk) (w:World) (hk:k < ts.length) (hl:ts.length≤1000) (ho:out.length≤k) (hT:ToksU g w vin ts) (hS:RSt g vin w k v out) :
 Calls Tryz.prog 260 #[.pointer (some ⟨g,0,none⟩)] w fun e w'=>e=.returned (.tuple #[])∧∃ v',Kept g v w w' v'∧RSt g vin w' (k+1) v' (out ++ [(knd ts k,num ts k,0)]):=by
 obtain ⟨A,cap,rfl,hc,hi⟩:=hT
 obtain ⟨b,o,rfl,hb,c0,c1,c2⟩:=hi k ts[k] (List.getElem?_eq_getElem hk)
 rw [knd_at (List.getElem?_eq_getElem hk),num_at (List.getElem?_eq_getElem hk)]
 exact operand_here ts g k b o cap v _ _ _ out w hS hk hl ho hb c0 c1 c2
end Go.Proofs.YtgofpbdbeegoeaaGreatDoor
