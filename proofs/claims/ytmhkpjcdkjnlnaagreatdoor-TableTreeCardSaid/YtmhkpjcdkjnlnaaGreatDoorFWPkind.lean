/- What a call of parse's reader may change, and how the reader stands in memory: its block, and the row of tokens that it writes. No function is called in this text. -/
import Derived.Test.YtmhkpjcdkjnlnaaGreatDoorFWZgen
import Derived.Test.YtmhkpjcdkjnlnaaGreatDoorFWPpure
namespace Go.Proofs.YtmhkpjcdkjnlnaaGreatDoor
open Go.ChangeShapes Go.WideShapes Go.ChangeAt Go.RowKit
set_option linter.unusedVariables false

structure Kept (g:Nat) (v:Value) (w w':World) (v':Value):Prop where
 os:w'.os=w.os
 tape:w'.tape=w.tape
 output:w'.output=w.output
 size:w.heap.size≤w'.heap.size
 block:∀ i,i < w.heap.size→i ≠ g→v.ownBlock ≠ some i→w'.heap[i]?=w.heap[i]?
 row:v'.ownBlock=v.ownBlock ∨ ∀ j,v'.ownBlock=some j→w.heap.size≤j
theorem Kept.refl (g:Nat) (v:Value) (w:World):Kept g v w w v:=⟨rfl,rfl,rfl,Nat.le_refl _,fun _ _ _ _=>rfl,.inl rfl⟩
theorem Kept.trans {g:Nat} {v v1 v2:Value} {w w1 w2:World} (h:Kept g v w w1 v1) (k:Kept g v1 w1 w2 v2):Kept g v w w2 v2:=by
 refine ⟨k.os.trans h.os,k.tape.trans h.tape,k.output.trans h.output,Nat.le_trans h.size k.size,fun i hi hg hv=>?_,?_⟩
 · refine (k.block i (Nat.lt_of_lt_of_le hi h.size) hg ?_).trans (h.block i hi hg hv)
   rcases h.row with hr | hr
   · rw [hr]; exact hv
   · exact fun hj=>absurd (hr i hj) (by omega)
 · rcases k.row with kr | kr
   · rw [kr]; exact h.row
   · exact .inr fun j hj=>Nat.le_trans h.size (kr j hj)
theorem Kept.of_below {g:Nat} {w w':World} (v:Value) (h:Below w.heap.size w w'):Kept g v w w' v:=⟨h.os,h.tape,h.output,h.size,fun i hi _ _=>h.block i hi,.inl rfl⟩
theorem Kept.drewN {g:Nat} {v v':Value} {w w':World} (h:Kept g v w w' v') (n:Nat):Kept g v w (w'.drewN n) v':=⟨h.os,h.tape,h.output,h.size,h.block,h.row⟩
theorem Kept.alloc {g:Nat} {v v':Value} {w w':World} (h:Kept g v w w' v') (o:Obj):Kept g v w (w'.alloc o) v':=h.trans (Kept.of_below v' ((Below.refl _ _).alloc (Nat.le_refl _) o))
theorem Kept.set {g:Nat} {v v':Value} {w w':World} (h:Kept g v w w' v') (i:Nat) (u:Value):Kept g v w (w'.setCell ⟨g,i,none⟩ u) v' :=
 ⟨h.os,h.tape,h.output,by simpa using h.size,fun j hj hg hv=>(Below.heap_setCell w' ⟨g,i,none⟩ u j hg).trans (h.block j hj hg hv),h.row⟩
theorem Kept.grown {g:Nat} {v v1 v2:Value} {w w1 w2:World} (h:Kept g v w w1 v1) (hg:w1.grownBy w2 v1.ownBlock) (hr:v2.ownBlock=v1.ownBlock ∨ v2.ownBlock=some w1.heap.size):Kept g v w w2 v2:=by
 refine h.trans ⟨hg.os,hg.tape,hg.output,hg.size,fun i hi _ hv=>hg.block i hi (fun hc=>hv hc.symm),?_⟩
 rcases hr with hr | hr
 · exact .inl hr
 · refine .inr fun j hj=>?_
   rw [hr] at hj; injection hj with hj; omega
theorem Kept.below {g e s n B:Nat} {xs:List Value} {v v':Value} {w w':World} (h:Kept g v w w' v') (ho:w.ownsRow B e s v n xs) (hB:g < B) (hg:g≤w.heap.size):Below g w w' :=
 ⟨h.os,h.tape,h.output,h.size,fun i hi=>h.block i (by omega) (by omega) (fun hc=>by have:=(ho.lt i hc).1; omega)⟩
theorem Kept.after {g:Nat} {v v':Value} {w w1 w':World} (hb:Below w.heap.size w w1) (h:Kept g v w1 w' v'):Kept g v w w' v':=(Kept.of_below v hb).trans h

def ToksU (g:Nat) (w:World) (v:Value) (ts:List Tk):Prop :=
 ∃ (A:Option Addr) (cap:Nat),v=.slice A ts.length cap∧ts.length≤cap∧∀ (i:Nat) (t:Tk),ts[i]?=some t→∃ b o:Nat,A=some ⟨b,o,none⟩∧b < g ∧
  w.cell? ⟨b,o+i * 3,none⟩=some (.int .i64 t.1)∧w.cell? ⟨b,o+i * 3+1,none⟩=some (.int .i64 t.2.1)∧w.cell? ⟨b,o+i * 3+2,none⟩=some (.int .i64 t.2.2)
theorem ToksU.of {w:World} {v:Value} {ts:List Tk} (h:ToksAt w v ts):ToksU w.heap.size w v ts:=h
theorem ToksU.below {g:Nat} {w w':World} {v:Value} {ts:List Tk} (h:ToksU g w v ts) (hb:Below g w w'):ToksU g w' v ts:=by
 obtain ⟨A,cap,hv,hc,hi⟩:=h
 refine ⟨A,cap,hv,hc,fun i t ht=>?_⟩
 obtain ⟨b,o,hA,hlt,h0,h1,h2⟩:=hi i t ht
 exact ⟨b,o,hA,hlt,(hb.cell (p:=⟨b,_,none⟩) hlt).trans h0,(hb.cell (p:=⟨b,_,none⟩) hlt).trans h1,(hb.cell (p:=⟨b,_,none⟩) hlt).trans h2⟩

structure RSt (g:Nat) (vin:Value) (w:World) (k:Nat) (v:Value) (o:List Tk):Prop where
 blk:Blk w g 167 #[vin,.int .i64 k,v]
 own:w.ownsRow (g+1) 192 3 v o.length (tksCells o)
theorem RSt.kept {g k:Nat} {vin v:Value} {w w':World} {o:List Tk} (h:RSt g vin w k v o) (hb:Below w.heap.size w w'):RSt g vin w' k v o:=⟨h.blk.below hb h.blk.lt,own_below h.own hb⟩
theorem RSt.drewN {g k:Nat} {vin v:Value} {w:World} {o:List Tk} (h:RSt g vin w k v o) (n:Nat):RSt g vin (w.drewN n) k v o:=⟨h.blk.drewN n,h.own⟩
theorem own_set {w:World} {base:Nat} {e:TypeId} {size:Nat} {v:Value} {n:Nat} {xs:List Value} {g:Nat} (h:w.ownsRow base e size v n xs) (i:Nat) (u:Value) (hg:g < base):(w.setCell ⟨g,i,none⟩ u).ownsRow base e size v n xs:=by
 refine ⟨h.1,?_⟩
 rcases h.2 with h2 | ⟨g',cap,cur,hv,hb,hc,hrest⟩
 · exact .inl h2
 · exact .inr ⟨g',cap,cur,hv,hb,(Below.heap_setCell w ⟨g,i,none⟩ u g' (by simp; omega)).trans hc,hrest⟩
theorem RSt.at_ {g k:Nat} {vin v:Value} {w:World} {o:List Tk} (h:RSt g vin w k v o) (k':Nat):RSt g vin (w.setCell ⟨g,1,none⟩ (.int .i64 k')) k' v o :=
 ⟨h.blk.set_ 1 _,own_set h.own _ _ (Nat.lt_succ_self g)⟩
theorem RSt.below {g k:Nat} {vin v:Value} {w:World} {o:List Tk} (h:RSt g vin w k v o) {v':Value} {w':World} (hk:Kept g v w w' v'):Below g w w':=hk.below h.own (Nat.lt_succ_self g) (Nat.le_of_lt h.blk.lt)
theorem RSt.lt {g k:Nat} {vin v:Value} {w:World} {o:List Tk} (h:RSt g vin w k v o):g < w.heap.size:=h.blk.lt
def RPost (g:Nat) (vin:Value) (R:Res) (v:Value) (w:World) (e:Ending) (w':World):Prop :=
 match R with
 | .ok k o=>e=.returned (.bool true)∧∃ v',Kept g v w w' v'∧RSt g vin w' k v' o
 | .bad k=>e=.returned (.bool false)∧∃ v' o,Kept g v w w' v'∧RSt g vin w' k v' o
def Reads (ts:List Tk) (g:Nat) (vin:Value) (n lv F:Nat):Prop :=
 ∀ (k:Nat) (out:List Tk) (R:Res) (v:Value) (w:World),rd ts n lv k out=some R→k≤ts.length→out.length≤k→ToksU g w vin ts→RSt g vin w k v out →
  Calls Tryz.prog F #[.pointer (some ⟨g,0,none⟩)] w (RPost g vin R v w)

theorem drewN_two (w:World) (a b:Nat):(w.drewN a).drewN b=w.drewN (a+b):=by simp [World.drewN,Nat.add_assoc]
theorem kind_end (g:Nat) (vin v:Value) (ts:List Tk) (w:World) (A:Option Addr) (cap:Nat) (hv:vin=.slice A ts.length cap) (hB:Blk w g 167 #[vin,.int .i64 ts.length,v]) (hl:ts.length≤1000000) :
 Calls Tryz.prog 215 #[.pointer (some ⟨g,0,none⟩)] w fun e w'=>e=.returned (.int .i64 0)∧∃ n,w'=w.drewN n:=by
 subst hv
 obtain ⟨⟨c0,c1,c2⟩,_⟩:=hB.facts3
 have hd:decide (ts.length=ts.length)=true:=by simp
 clear hB
 go_enter Tryz.func215,Tryz.ntmps215
 go_wp2
 go_quiet (fail)
 go_wp2
 go_ret
 exact ⟨rfl,_,rfl⟩
theorem kind_here (g k b o cap:Nat) (v:Value) (ts:List Tk) (x:Int) (w:World) (hB:Blk w g 167 #[.slice (some ⟨b,o,none⟩) ts.length cap,.int .i64 k,v]) (hk:k < ts.length) (hl:ts.length≤1000000) (hx:w.cell? ⟨b,o+k * 3,none⟩=some (.int .i64 x)) :
 Calls Tryz.prog 215 #[.pointer (some ⟨g,0,none⟩)] w fun e w'=>e=.returned (.int .i64 x)∧∃ n,w'=w.drewN n:=by
 obtain ⟨⟨c0,c1,c2⟩,_⟩:=hB.facts3
 have hne:((k:Int) == (ts.length:Int))=false:=by simp; omega
 have hne':(k == ts.length)=false:=by simp; omega
 have hd:decide (k=ts.length)=false:=by simp; omega
 have hk':(k:Int) < (ts.length:Int):=by omega
 clear hB
 go_enter Tryz.func215,Tryz.ntmps215
 go_wp2
 go_quiet (fail)
 go_wp2
 go_quiet (fail)
 go_wp2
 go_ret
 exact ⟨rfl,_,drewN_two _ _ _⟩
theorem kind_any (ts:List Tk) (g k:Nat) (vin v:Value) (w:World) (o:List Tk) (hT:ToksU g w vin ts) (hS:RSt g vin w k v o) (hk:k≤ts.length) (hl:ts.length≤1000000) :
 Calls Tryz.prog 215 #[.pointer (some ⟨g,0,none⟩)] w fun e w'=>e=.returned (.int .i64 (knd ts k))∧∃ n,w'=w.drewN n:=by
 obtain ⟨A,cap,hv,hc,hi⟩:=hT
 rcases Nat.lt_or_ge k ts.length with hlt | hge
 · obtain ⟨b,o,rfl,hb,c0,c1,c2⟩:=hi k ts[k] (List.getElem?_eq_getElem hlt)
   rw [knd_at (List.getElem?_eq_getElem hlt)]
   subst hv
   exact kind_here g k b o cap v ts _ w hS.blk hlt hl c0
 · obtain rfl:k=ts.length:=by omega
   rw [knd_end]
   exact kind_end g vin v ts w A cap hv hS.blk hl

def byteAt (ts:List Tk) (len k:Nat):Int:=(ts[k]?.map fun t=>t.2.2).getD len
theorem byteIn_end (g:Nat) (s:ByteArray) (vin v:Value) (ts:List Tk) (w:World) (A:Option Addr) (cap:Nat) (hv:vin=.slice A ts.length cap) (hB:Blk w g 167 #[vin,.int .i64 ts.length,v]) (hl:ts.length≤1000000) (hs:s.size≤1000000) :
 Calls Tryz.prog 136 #[.pointer (some ⟨g,0,none⟩),.string s] w fun e w'=>e=.returned (.int .i64 s.size)∧∃ n,w'=w.drewN n:=by
 subst hv
 obtain ⟨⟨c0,c1,c2⟩,_⟩:=hB.facts3
 have hd:decide (ts.length=ts.length)=true:=by simp
 clear hB
 go_enter Tryz.func136,Tryz.ntmps136
 go_wp2
 go_quiet (fail)
 go_wp2
 go_ret
 exact ⟨rfl,_,rfl⟩
theorem byteIn_here (g k b o cap:Nat) (s:ByteArray) (v:Value) (ts:List Tk) (x:Int) (w:World) (hB:Blk w g 167 #[.slice (some ⟨b,o,none⟩) ts.length cap,.int .i64 k,v]) (hk:k < ts.length) (hl:ts.length≤1000000) (hs:s.size≤1000000) (hx:w.cell? ⟨b,o+k * 3+2,none⟩=some (.int .i64 x)) :
 Calls Tryz.prog 136 #[.pointer (some ⟨g,0,none⟩),.string s] w fun e w'=>e=.returned (.int .i64 x)∧∃ n,w'=w.drewN n:=by
 obtain ⟨⟨c0,c1,c2⟩,_⟩:=hB.facts3
 have hne:((k:Int) == (ts.length:Int))=false:=by simp; omega
 have hne':(k == ts.length)=false:=by simp; omega
 have hd:decide (k=ts.length)=false:=by simp; omega
 have hk':(k:Int) < (ts.length:Int):=by omega
 clear hB
 go_enter Tryz.func136,Tryz.ntmps136
 go_wp2
 go_quiet (fail)
 go_wp2
 go_quiet (fail)
 go_wp2
 go_ret
 exact ⟨rfl,_,drewN_two _ _ _⟩
theorem byteIn_any (ts:List Tk) (g k:Nat) (s:ByteArray) (vin v:Value) (w:World) (o:List Tk) (hT:ToksU g w vin ts) (hS:RSt g vin w k v o) (hk:k≤ts.length) (hl:ts.length≤1000000) (hs:s.size≤1000000) :
 Calls Tryz.prog 136 #[.pointer (some ⟨g,0,none⟩),.string s] w fun e w'=>e=.returned (.int .i64 (byteAt ts s.size k))∧∃ n,w'=w.drewN n:=by
 obtain ⟨A,cap,hv,hc,hi⟩:=hT
 rcases Nat.lt_or_ge k ts.length with hlt | hge
 · obtain ⟨b,o,rfl,hb,c0,c1,c2⟩:=hi k ts[k] (List.getElem?_eq_getElem hlt)
   have h:byteAt ts s.size k=ts[k].2.2:=by unfold byteAt; rw [List.getElem?_eq_getElem hlt]; rfl
   rw [h]
   subst hv
   exact byteIn_here g k b o cap s v ts _ w hS.blk hlt hl hs c2
 · obtain rfl:k=ts.length:=by omega
   have h:byteAt ts s.size ts.length=s.size:=by unfold byteAt; rw [List.getElem?_eq_none (Nat.le_refl _)]; rfl
   rw [h]
   exact byteIn_end g s vin v ts w A cap hv hS.blk hl hs

def IntsAt (w:World) (b:Nat) (xs:List Int):Prop:=∀ (i:Nat) (x:Int),xs[i]?=some x→w.cell? ⟨b,i,none⟩=some (.int .i64 x)
theorem index_yes (xs:List Int) (b cap:Nat) (x:Int) (w:World) (hx:IntsAt w b xs) (hl:xs.length≤1000000) (hm:x ∈ xs) :
 Calls Tryz.prog 160 #[.slice (some ⟨b,0,none⟩) xs.length cap,.int .i64 x] w fun e w'=>(∃ k:Nat,e=.returned (.int .i64 k))∧w=w':=by
 have HX:=Lib.hid hx
 have HM:=Lib.hid hm
 clear hx hm
 go_enter Tryz.func160,Tryz.ntmps160
 go_wp2
 go_loop [8] (fun i=>∃ k:Nat,k≤xs.length∧i=.int .i64 k∧Hid (∀ j y,j < k→xs[j]?=some y→y ≠ x)) (fun i=>xs.length - (intOf i).toNat)
 case atStart=>exact ⟨0,Nat.zero_le _,rfl,Lib.hid (fun j y h=>by omega)⟩
 case round =>
  obtain ⟨k,hk,rfl,hno⟩:=hrel
  by_cases hlt:k < xs.length
  · have c:=HX.out k xs[k] (List.getElem?_eq_getElem hlt)
    have HE:=Lib.hid (List.getElem?_eq_getElem hlt)
    generalize xs[k]=y at *
    by_cases hy:x=y
    · subst hy
      go_wp2
      go_ret
      exact ⟨⟨k,rfl⟩,rfl⟩
    · have hy':(x == y)=false:=by simpa using hy
      have HY:=Lib.hid hy
      clear hy
      go_wp2
      go_round
      case rel=>exact ⟨k+1,by omega,by go_num,Lib.hid (fun j z hj hz=>by
       by_cases hjk:j=k
       · subst hjk; rw [HE.out] at hz; injection hz with hz; subst hz; exact fun h=>HY.out h.symm
       · exact hno.out j z (by omega) hz)⟩
      case measure=>simp [intOf]; omega
  · exfalso
    obtain ⟨j,hj⟩:=List.getElem?_of_mem HM.out
    have:=(List.getElem?_eq_some_iff.1 hj).1
    exact hno.out j x (by omega) hj rfl
theorem index_no (xs:List Int) (b cap:Nat) (x:Int) (w:World) (hx:IntsAt w b xs) (hl:xs.length≤1000000) (hm:x ∉ xs) :
 Calls Tryz.prog 160 #[.slice (some ⟨b,0,none⟩) xs.length cap,.int .i64 x] w fun e w'=>e=.returned (.int .i64 (-1))∧w=w':=by
 have HX:=Lib.hid hx
 have HM:=Lib.hid hm
 clear hx hm
 go_enter Tryz.func160,Tryz.ntmps160
 go_wp2
 go_loop [8] (fun i=>∃ k:Nat,k≤xs.length∧i=.int .i64 k) (fun i=>xs.length - (intOf i).toNat)
 case atStart=>exact ⟨0,Nat.zero_le _,rfl⟩
 case round =>
  obtain ⟨k,hk,rfl⟩:=hrel
  by_cases hlt:k < xs.length
  · have c:=HX.out k xs[k] (List.getElem?_eq_getElem hlt)
    have hy:x ≠ xs[k]:=fun h=>HM.out (by rw [h]; exact List.getElem_mem hlt)
    have hy':(x == xs[k])=false:=by simpa using hy
    clear hy
    generalize xs[k]=y at *
    go_wp2
    go_round
    case rel=>exact ⟨k+1,by omega,by go_num⟩
    case measure=>simp [intOf]; omega
  · go_wp2
    go_ret
    exact ⟨rfl,rfl⟩
def hasB (xs:List Int) (x:Int):Bool:=decide (x ∈ xs)
theorem contains_any (xs:List Int) (b cap:Nat) (x:Int) (w:World) (hx:IntsAt w b xs) (hl:xs.length≤1000000) :
 Calls Tryz.prog 125 #[.slice (some ⟨b,0,none⟩) xs.length cap,.int .i64 x] w fun e w'=>e=.returned (.bool (hasB xs x))∧w=w':=by
 by_cases hm:x ∈ xs
 · have h:hasB xs x=true:=by simpa [hasB] using hm
   rw [h]
   have HM:=Lib.hid hm
   have HX:=Lib.hid hx
   clear hm hx h
   go_enter Tryz.func125,Tryz.ntmps125
   go_wp2_with fail
   refine (index_yes xs b cap x w HX.out hl HM.out).mono ?_
   rintro e w' ⟨⟨k,rfl⟩,rfl⟩
   go_wp2
   go_ret
   exact ⟨rfl,rfl⟩
 · have h:hasB xs x=false:=by simpa [hasB] using hm
   rw [h]
   have HM:=Lib.hid hm
   have HX:=Lib.hid hx
   clear hm hx h
   go_enter Tryz.func125,Tryz.ntmps125
   go_wp2_with fail
   refine (index_no xs b cap x w HX.out hl HM.out).mono ?_
   rintro e w' ⟨rfl,rfl⟩
   go_wp2
   go_ret
   exact ⟨rfl,rfl⟩
end Go.Proofs.YtmhkpjcdkjnlnaaGreatDoor
