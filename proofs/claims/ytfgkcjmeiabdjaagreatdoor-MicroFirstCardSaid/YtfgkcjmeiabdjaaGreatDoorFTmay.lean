/- How the document's Reader (spinetref03) stands in memory; the contracts of its small functions: see, put, Level. -/
import Derived.Test.YtfgkcjmeiabdjaaGreatDoorFPwhole
import Derived.Deep.RegionWith
import Derived.Test.YtfgkcjmeiabdjaaGreatDoorFZgen
import Derived.RegionTactic
namespace Go.Proofs.YtfgkcjmeiabdjaaGreatDoor
open Go.ChangeShapes Go.WideShapes Go.ChangeAt Go.RowKit
set_option linter.unusedVariables false

theorem Blk.facts4 {w:World} {g:Nat} {t:TypeId} {x y z u:Value} (h:Blk w g t #[x,y,z,u]) :
    (w.cell? ⟨g,0,none⟩=some x∧w.cell? ⟨g,1,none⟩=some y∧w.cell? ⟨g,2,none⟩=some z∧w.cell? ⟨g,3,none⟩=some u)∧(w.frozen? ⟨g,0,none⟩=false∧w.frozen? ⟨g,1,none⟩=false∧w.frozen? ⟨g,2,none⟩=false∧w.frozen? ⟨g,3,none⟩=false) :=
  ⟨⟨h.cell 0,h.cell 1,h.cell 2,h.cell 3⟩,h.frozen 0,h.frozen 1,h.frozen 2,h.frozen 3⟩
structure QSt (g:Nat) (vin:Value) (w:World) (k:Nat) (v:Value) (o:List Tk) (bad:Bool):Prop where
  blk:Blk w g 208 #[vin,.int .i64 k,v,.bool bad]
  own:w.ownsRow (g+1) 184 3 v o.length (tksCells o)
theorem QSt.drewN {g k:Nat} {vin v:Value} {w:World} {o:List Tk} {b:Bool} (h:QSt g vin w k v o b) (n:Nat):QSt g vin (w.drewN n) k v o b:=⟨h.blk.drewN n,h.own⟩
theorem QSt.lt {g k:Nat} {vin v:Value} {w:World} {o:List Tk} {b:Bool} (h:QSt g vin w k v o b):g < w.heap.size:=h.blk.lt
theorem QSt.at_ {g k:Nat} {vin v:Value} {w:World} {o:List Tk} {b:Bool} (h:QSt g vin w k v o b) (k':Nat):QSt g vin (w.setCell ⟨g,1,none⟩ (.int .i64 k')) k' v o b :=
  ⟨h.blk.set_ 1 _,own_set h.own _ _ (Nat.lt_succ_self g)⟩
theorem QSt.bad_ {g k:Nat} {vin v:Value} {w:World} {o:List Tk} {b:Bool} (h:QSt g vin w k v o b):QSt g vin (w.setCell ⟨g,3,none⟩ (.bool true)) k v o true :=
  ⟨h.blk.set_ 3 _,own_set h.own _ _ (Nat.lt_succ_self g)⟩
theorem QSt.put_ {g k:Nat} {vin v v':Value} {w w':World} {o:List Tk} {b:Bool} {t:Tk} (h:QSt g vin w k v o b) (hg:w.grownBy w' v.ownBlock) (ho:w'.ownsRow (g+1) 184 3 v' (o.length+1) (tksCells o ++ tkCells t)):QSt g vin (w'.setCell ⟨g,2,none⟩ v') k v' (o ++ [t]) b:=by
  have hne:some g ≠ v.ownBlock:=fun hc=>by have:=(h.own.lt g hc.symm).1; omega
  exact ⟨(h.blk.grown hg hne).set_ 2 v',own_set (own_snoc ho) 2 v' (Nat.lt_succ_self g)⟩
theorem QSt.kept {g k:Nat} {vin v:Value} {w w':World} {o:List Tk} {b:Bool} (h:QSt g vin w k v o b) (hb:Below w.heap.size w w'):QSt g vin w' k v o b:=⟨h.blk.below hb h.blk.lt,own_below h.own hb⟩

theorem see_bad (g k:Nat) (vin v:Value) (w:World) (hB:Blk w g 208 #[vin,.int .i64 k,v,.bool true]) :
    Calls Tryz.prog 184 #[.pointer (some ⟨g,0,none⟩)] w fun e w'=>e=.returned (.int .i64 0)∧∃ n,w'=w.drewN n:=by
  obtain ⟨⟨c0,c1,c2,c3⟩,_⟩:=hB.facts4
  clear hB
  go_enter Tryz.func184,Tryz.ntmps184
  go_wp2
  go_quiet (fail)
  go_wp2
  go_ret
  exact ⟨rfl,_,rfl⟩
theorem see_end (g:Nat) (vin v:Value) (ts:List Tk) (w:World) (A:Option Addr) (cap:Nat) (hv:vin=.slice A ts.length cap) (hB:Blk w g 208 #[vin,.int .i64 ts.length,v,.bool false]) (hl:ts.length≤1000000) :
    Calls Tryz.prog 184 #[.pointer (some ⟨g,0,none⟩)] w fun e w'=>e=.returned (.int .i64 0)∧∃ n,w'=w.drewN n:=by
  subst hv
  obtain ⟨⟨c0,c1,c2,c3⟩,_⟩:=hB.facts4
  clear hB
  go_enter Tryz.func184,Tryz.ntmps184
  go_wp2
  go_quiet (fail)
  go_wp2
  go_ret
  exact ⟨rfl,_,rfl⟩
theorem see_here (g k b o cap:Nat) (v:Value) (ts:List Tk) (x:Int) (w:World) (hB:Blk w g 208 #[.slice (some ⟨b,o,none⟩) ts.length cap,.int .i64 k,v,.bool false]) (hk:k < ts.length) (hl:ts.length≤1000000) (hx:w.cell? ⟨b,o+k * 3,none⟩=some (.int .i64 x)) :
    Calls Tryz.prog 184 #[.pointer (some ⟨g,0,none⟩)] w fun e w'=>e=.returned (.int .i64 x)∧∃ n,w'=w.drewN n:=by
  obtain ⟨⟨c0,c1,c2,c3⟩,_⟩:=hB.facts4
  have hd:decide (ts.length≤k)=false:=by simp; omega
  have hk':(k:Int) < (ts.length:Int):=by omega
  clear hB
  go_enter Tryz.func184,Tryz.ntmps184
  go_wp2
  go_quiet (fail)
  go_wp2
  go_quiet (fail)
  go_wp2
  go_ret
  exact ⟨rfl,_,drewN_two _ _ _⟩
theorem see_any (ts:List Tk) (g k:Nat) (vin v:Value) (w:World) (o:List Tk) (hT:ToksU g w vin ts) (hS:QSt g vin w k v o false) (hk:k≤ts.length) (hl:ts.length≤1000000) :
    Calls Tryz.prog 184 #[.pointer (some ⟨g,0,none⟩)] w fun e w'=>e=.returned (.int .i64 (knd ts k))∧∃ n,w'=w.drewN n:=by
  obtain ⟨A,cap,hv,hc,hi⟩:=hT
  rcases Nat.lt_or_ge k ts.length with hlt | hge
  · obtain ⟨b,o,rfl,hb,c0,c1,c2⟩:=hi k ts[k] (List.getElem?_eq_getElem hlt)
    rw [knd_at (List.getElem?_eq_getElem hlt)]
    subst hv
    exact see_here g k b o cap v ts _ w hS.blk hlt hl c0
  · obtain rfl:k=ts.length:=by omega
    rw [knd_end]
    exact see_end g vin v ts w A cap hv hS.blk hl

set_option maxHeartbeats 1000000 in
set_option maxRecDepth 100000 in
theorem put_any (g k:Nat) (kd x:Int) (vin v:Value) (o:List Tk) (b:Bool) (w:World) (hS:QSt g vin w k v o b) (ho:o.length≤1000000) :
    Calls Tryz.prog 185 #[.pointer (some ⟨g,0,none⟩),.int .i64 kd,.int .i64 x] w fun e w'=>e=.returned (.tuple #[])∧Below g w w'∧∃ v',QSt g vin w' k v' (o ++ [(kd,x,0)]) b:=by
  obtain ⟨i0,hi,hz0,hz1,hz2⟩:=info_parts Tryz.info40
  have HI:=Lib.hid hi
  have HZ0:=Lib.hid hz0
  have HZ1:=Lib.hid hz1
  have HZ2:=Lib.hid hz2
  have HS1:=Lib.hid hS
  have hg:=hS.lt
  obtain ⟨⟨d0,d1,d2,d3⟩,e0,e1,e2,e3⟩:=hS.blk.facts4
  clear hi hz0 hz1 hz2 hS
  go_enter Tryz.func185,Tryz.ntmps185
  go_wp2_with (at_builtin; refine wpList_append_own_at _ rfl _ _ 162 rfl (g+1) 184 i0 (.agg #[.int .i64 0,.int .i64 0,.int .i64 0]) 3 24 Tryz.underlying162 HI.out HZ0.out HZ1.out HZ2.out rfl (by decide) _ _ _ rfl (HS1.out.own.alloc _) ⟨w.heap.size,0,none⟩ 1 1 (tkCells (kd,x,0)) rfl rfl ?c1 ?c2 ?c3 ?c4 ?c5 ?_)
  case c1=>exact new_cells _ _ (kd,x,0) _ rfl
  case c2=>exact tk_one _
  case c3=>unfold maxLen; omega
  case c4=>omega
  case c5=>simp; omega
  intro v2 w2 hown hgrow _ hrow
  obtain ⟨g2,cap2,rfl⟩:=slice_of_own hown
  have HA:=Lib.hid ((HS1.out.kept ((Below.refl _ _).alloc (Nat.le_refl _) _)).put_ hgrow hown)
  have HB:=Lib.hid ((((Below.refl g w).alloc (Nat.le_of_lt hg) _).grown hgrow (by simp; omega) (fun j hj=>by have:=(HS1.out.own.lt j hj).1; omega)).setCell (p:=⟨g,2,none⟩) (by simp) (.slice (some ⟨g2,0,none⟩) (o.length+1) cap2))
  have hne:some g ≠ v.ownBlock:=fun hc=>by have:=(HS1.out.own.lt g hc.symm).1; omega
  obtain ⟨⟨d0,d1,d2,d3⟩,e0,e1,e2,e3⟩:=((HS1.out.blk.alloc _).grown hgrow hne).facts4
  clear hown hgrow hrow hne
  go_wp2
  go_end0
  exact ⟨rfl,HB.out,_,HA.out⟩

set_option maxHeartbeats 1000000 in
theorem level_any (x:Int) (w:World):Calls Tryz.prog 186 #[.int .i64 x] w fun e w'=>e=.returned (.int .i64 (lvl x:Nat))∧w=w':=by
  go_enter Tryz.func186,Tryz.ntmps186
  go_wp2
  all_goals
    go_ret
    refine ⟨ret_int ?_,rfl⟩
    unfold lvl
    (repeat' split) <;> first | rfl | (exfalso; simp_all; omega) | (exfalso; simp_all) | (exfalso; omega)
end Go.Proofs.YtfgkcjmeiabdjaaGreatDoor
/- The contract of the document's Reader.one: a signed one. -/
namespace Go.Proofs.YtfgkcjmeiabdjaaGreatDoor
open Go.ChangeShapes Go.WideShapes Go.ChangeAt Go.RowKit
set_option linter.unusedVariables false

def QPost (g:Nat) (vin:Value) (k0:Nat) (o0:List Tk) (R:Res) (w:World) (e:Ending) (w':World):Prop :=
  e=.returned (.tuple #[])∧Below g w w'∧match R with
    | .ok k o=>∃ v',QSt g vin w' k v' o false
    | .bad k=>∃ v' o,QSt g vin w' k v' o true∧o.length+k0≤o0.length+k
def QOne (ts:List Tk) (g:Nat) (vin:Value) (n:Nat):Prop :=
  ∀ (k:Nat) (out:List Tk) (R:Res) (v:Value) (w:World),rd ts n 6 k out=some R→k≤ts.length→out.length≤k→ToksU g w vin ts→QSt g vin w k v out false →
    Calls Tryz.prog 183 #[.pointer (some ⟨g,0,none⟩)] w (QPost g vin k out R w)
def QReads (ts:List Tk) (g:Nat) (vin:Value) (n lv:Nat):Prop :=
  ∀ (k:Nat) (out:List Tk) (R:Res) (v:Value) (x:Int) (w:World),rd ts n lv k out=some R→k≤ts.length→out.length≤k→ToksU g w vin ts→QSt g vin w k v out false→x=(lv:Int) →
    Calls Tryz.prog 170 #[.pointer (some ⟨g,0,none⟩),.int .i64 x] w (QPost g vin k out R w)
theorem QPost.ret {g k0:Nat} {vin:Value} {o0:List Tk} {R:Res} {w w':World} {e:Ending} (h:QPost g vin k0 o0 R w e w'):e=.returned (.tuple #[]):=h.1

set_option maxHeartbeats 1000000 in
set_option maxRecDepth 100000 in
theorem one_neg (ts:List Tk) (g n k:Nat) (vin v:Value) (out:List Tk) (R:Res) (w:World) (hl:ts.length≤1000) (hF:QOne ts g vin n) (hk:k≤ts.length) (ho:out.length≤k) (hT:ToksU g w vin ts) (hS:QSt g vin w k v out false)
    (hc:knd ts k=4) (hR:thenR (rd ts n 6 (k+1) out) (fun k' o=>some (.ok k' (o ++ [(19,0,0)])))=some R):Calls Tryz.prog 183 #[.pointer (some ⟨g,0,none⟩)] w (QPost g vin k out R w):=by
  have hlt:k < ts.length:=knd_lt (by omega)
  obtain ⟨R1,hR1,rfl⟩:=thenR_op hR
  have HFI:=Lib.hid (rd_fits ts n 6 (k+1) out R1 hR1 hlt)
  have HF:=Lib.hid hF
  have HT:=Lib.hid hT
  have HS:=Lib.hid hS
  have HC:=Lib.hid hc
  have HR1:=Lib.hid hR1
  obtain ⟨⟨c0,c1,c2,c3⟩,f0,f1,f2,f3⟩:=hS.blk.facts4
  clear hF hT hS hc hR hR1
  go_enter Tryz.func183,Tryz.ntmps183
  go_wp2_with fail
  refine (see_any ts g k vin v _ out HT.out HS.out hk (by omega)).mono ?_
  rintro e w1 ⟨rfl,a,rfl⟩
  rw [HC.out]
  go_wp2_with fail
  have hb:Below g w (w.setCell ⟨g,1,none⟩ (.int .i64 ((k:Int)+1))):=(Below.refl _ _).setCell (by simp) _
  have HT1:=Lib.hid ((HT.out.below hb).drewN a)
  have HS1:=Lib.hid ((HS.out.at_ (k+1)).drewN a)
  have HB:=Lib.hid (below_drewN hb a)
  clear hb
  refine (HF.out (k+1) out R1 v _ HR1.out hlt (by omega) HT1.out HS1.out).mono ?_
  rintro e w2 ⟨rfl,hb2,hm⟩
  have HB2:=Lib.hid (HB.out.trans hb2)
  clear hb2
  cases R1 with
  | ok k' o' =>
    obtain ⟨v',hs⟩:=hm
    have HS2:=Lib.hid hs
    clear hs
    go_wp2_with fail
    refine (put_any g k' 19 0 vin v' o' false _ HS2.out (by have:=HFI.out; unfold Fits at this; omega)).mono ?_
    rintro e w3 ⟨rfl,hb3,v3,hs3⟩
    have HB3:=Lib.hid (HB2.out.trans hb3)
    have HS3:=Lib.hid hs3
    clear hb3 hs3
    go_wp2_with fail
    go_end0
    exact ⟨rfl,HB3.out,v3,HS3.out⟩
  | bad k' =>
    obtain ⟨v',o',hs,hlen⟩:=hm
    have HS2:=Lib.hid hs
    clear hs
    go_wp2_with fail
    refine (put_any g k' 19 0 vin v' o' true _ HS2.out (by have:=HFI.out; unfold Fits at this; omega)).mono ?_
    rintro e w3 ⟨rfl,hb3,v3,hs3⟩
    have HB3:=Lib.hid (HB2.out.trans hb3)
    have HS3:=Lib.hid hs3
    clear hb3 hs3
    go_wp2_with fail
    go_end0
    exact ⟨rfl,HB3.out,v3,_,HS3.out,by simp only [List.length_append,List.length_cons,List.length_nil]; omega⟩
set_option maxHeartbeats 2000000 in
set_option maxRecDepth 100000 in
theorem one_opd_here (ts:List Tk) (g k b o cap:Nat) (x y z:Int) (v:Value) (out:List Tk) (w:World) (hl:ts.length≤1000) (hk:k < ts.length) (ho:out.length≤k) (hT:ToksU g w (.slice (some ⟨b,o,none⟩) ts.length cap) ts) (hS:QSt g (.slice (some ⟨b,o,none⟩) ts.length cap) w k v out false)
    (hb:b < g) (h0:w.cell? ⟨b,o+k * 3,none⟩=some (.int .i64 x)) (h1:w.cell? ⟨b,o+k * 3+1,none⟩=some (.int .i64 y)) (hx:knd ts k=x) (hc:x=1 ∨ x=2 ∨ x=15 ∨ x=16) :
    Calls Tryz.prog 183 #[.pointer (some ⟨g,0,none⟩)] w (QPost g (.slice (some ⟨b,o,none⟩) ts.length cap) k out (.ok (k+1) (out ++ [(x,y,0)])) w):=by
  have HT:=Lib.hid hT
  have HS:=Lib.hid hS
  have HX:=Lib.hid hx
  have hk1:(k:Int) < (ts.length:Int):=by omega
  have hk0:(0:Int)≤(k:Int):=Int.natCast_nonneg _
  have hg:=hS.lt
  have hbw:b < w.heap.size:=by omega
  obtain ⟨⟨c0,c1,c2,c3⟩,f0,f1,f2,f3⟩:=hS.blk.facts4
  clear hT hS hx
  rcases hc with rfl | rfl | rfl | rfl
  all_goals
    go_enter Tryz.func183,Tryz.ntmps183
    go_wp2_with fail
    refine (see_any ts g k _ v _ out HT.out HS.out (by omega) (by omega)).mono ?_
    rintro e w1 ⟨rfl,a,rfl⟩
    rw [HX.out]
    go_wp2_with fail
    first
      | (go_region_with (go_at_call 185; refine (put_any g k _ y _ v out false _ ((HS.out.drewN a).drewN 1) (by omega)).mono ?_; rintro e w3 ⟨rfl,hb3,v3,hs3⟩; have HB3:=Lib.hid hb3; have HS3:=Lib.hid hs3; obtain ⟨⟨d0,d1,d2,d3⟩,e0,e1,e2,e3⟩:=hs3.blk.facts4; clear hb3 hs3))
      | fail
    all_goals
      go_wp2_with fail
      go_end0
      exact ⟨rfl,((below_drewN (below_drewN (Below.refl g w) a) 1).trans HB3.out).setCell (by simp) _,v3,HS3.out.at_ (k+1)⟩
end Go.Proofs.YtfgkcjmeiabdjaaGreatDoor
/- The contract of the document's Reader.one: brackets, and what can't go on; the whole. -/
namespace Go.Proofs.YtfgkcjmeiabdjaaGreatDoor
open Go.ChangeShapes Go.WideShapes Go.ChangeAt Go.RowKit
set_option linter.unusedVariables false

set_option maxHeartbeats 1000000 in
set_option maxRecDepth 100000 in
theorem one_bad (ts:List Tk) (g k:Nat) (vin v:Value) (out:List Tk) (w:World) (hl:ts.length≤1000) (hk:k≤ts.length) (hT:ToksU g w vin ts) (hS:QSt g vin w k v out false)
    (h4:knd ts k ≠ 4) (ho:isOpd (knd ts k)=false) (h17:knd ts k ≠ 17):Calls Tryz.prog 183 #[.pointer (some ⟨g,0,none⟩)] w (QPost g vin k out (.bad k) w):=by
  have HT:=Lib.hid hT
  have HS:=Lib.hid hS
  obtain ⟨n1,n2,n15,n16⟩:=opd_not ho
  have n4:(knd ts k == 4)=false:=by simpa using h4
  have n17:(knd ts k == 17)=false:=by simpa using h17
  obtain ⟨⟨c0,c1,c2,c3⟩,f0,f1,f2,f3⟩:=hS.blk.facts4
  clear hT hS h4 ho h17
  go_enter Tryz.func183,Tryz.ntmps183
  go_wp2_with fail
  refine (see_any ts g k _ v _ out HT.out HS.out hk (by omega)).mono ?_
  rintro e w1 ⟨rfl,a,rfl⟩
  generalize knd ts k=x at *
  go_wp2_with fail
  go_end0
  exact ⟨rfl,below_drewN ((Below.refl g w).setCell (by simp) _) a,v,out,(HS.out.bad_).drewN a,by omega⟩
set_option maxHeartbeats 2000000 in
set_option maxRecDepth 100000 in
theorem one_open (ts:List Tk) (g n k:Nat) (vin v:Value) (out:List Tk) (R:Res) (w:World) (hl:ts.length≤1000) (hF:QReads ts g vin n 1) (hk:k≤ts.length) (ho:out.length≤k) (hT:ToksU g w vin ts) (hS:QSt g vin w k v out false)
    (hc:knd ts k=17) (hR:thenR (rd ts n 1 (k+1) out) (fun k' o=>if knd ts k'=18 then some (.ok (k'+1) o) else some (.bad k'))=some R):Calls Tryz.prog 183 #[.pointer (some ⟨g,0,none⟩)] w (QPost g vin k out R w):=by
  have hlt:k < ts.length:=knd_lt (by omega)
  have HF:=Lib.hid hF
  have HT:=Lib.hid hT
  have HS:=Lib.hid hS
  have HC:=Lib.hid hc
  obtain ⟨⟨c0,c1,c2,c3⟩,f0,f1,f2,f3⟩:=hS.blk.facts4
  obtain ⟨R1,hR1⟩:∃ R1,rd ts n 1 (k+1) out=some R1:=by
    rcases thenR_some hR with ⟨k',h,_⟩ | ⟨k',o',h,_⟩
    · exact ⟨_,h⟩
    · exact ⟨_,h⟩
  have HFI:=Lib.hid (rd_fits ts n 1 (k+1) out R1 hR1 hlt)
  have HR1:=Lib.hid hR1
  rw [hR1] at hR
  have HR:=Lib.hid hR
  clear hF hT hS hc hR hR1
  go_enter Tryz.func183,Tryz.ntmps183
  go_wp2_with fail
  refine (see_any ts g k vin v _ out HT.out HS.out hk (by omega)).mono ?_
  rintro e w1 ⟨rfl,a,rfl⟩
  rw [HC.out]
  go_wp2_with fail
  have hb:Below g w (w.setCell ⟨g,1,none⟩ (.int .i64 ((k:Int)+1))):=(Below.refl _ _).setCell (by simp) _
  have HT1:=Lib.hid ((HT.out.below hb).drewN a)
  have HS1:=Lib.hid ((HS.out.at_ (k+1)).drewN a)
  have HB:=Lib.hid (below_drewN hb a)
  clear hb
  refine (HF.out (k+1) out R1 v 1 _ HR1.out hlt (by omega) HT1.out HS1.out rfl).mono ?_
  rintro e w2 ⟨rfl,hb2,hm⟩
  have HT2:=Lib.hid (HT1.out.below hb2)
  have HB2:=Lib.hid (HB.out.trans hb2)
  clear hb2 c0 c1 c2 c3 f0 f1 f2 f3
  cases R1 with
  | ok k' o' =>
    obtain ⟨v',hs⟩:=hm
    have HS2:=Lib.hid hs
    have hf:=HFI.out
    unfold Fits at hf
    obtain ⟨⟨c0,c1,c2,c3⟩,f0,f1,f2,f3⟩:=hs.blk.facts4
    clear hs
    by_cases h18:knd ts k'=18
    · have hR':=HR.out
      simp only [thenR] at hR'
      rw [if_pos h18] at hR'
      injection hR' with hR'
      subst hR'
      have H18:=Lib.hid h18
      clear h18
      go_wp2_with fail
      refine (see_any ts g k' vin v' _ o' HT2.out HS2.out (by omega) (by omega)).mono ?_
      rintro e w3 ⟨rfl,c,rfl⟩
      rw [H18.out]
      go_wp2_with fail
      go_end0
      exact ⟨rfl,below_drewN (HB2.out.setCell (by simp) _) c,v',(HS2.out.at_ (k'+1)).drewN c⟩
    · have hR':=HR.out
      simp only [thenR] at hR'
      rw [if_neg h18] at hR'
      injection hR' with hR'
      subst hR'
      have h18':(knd ts k' == 18)=false:=by simpa using h18
      clear h18
      go_wp2_with fail
      refine (see_any ts g k' vin v' _ o' HT2.out HS2.out (by omega) (by omega)).mono ?_
      rintro e w3 ⟨rfl,c,rfl⟩
      generalize knd ts k'=x at *
      go_wp2_with fail
      go_end0
      exact ⟨rfl,below_drewN (HB2.out.setCell (by simp) _) c,v',o',(HS2.out.bad_).drewN c,by omega⟩
  | bad k' =>
    have hR':=HR.out
    simp only [thenR] at hR'
    injection hR' with hR'
    subst hR'
    obtain ⟨v',o',hs,hlen⟩:=hm
    have HS2:=Lib.hid hs
    obtain ⟨⟨c0,c1,c2,c3⟩,f0,f1,f2,f3⟩:=hs.blk.facts4
    clear hs
    go_wp2_with fail
    refine (see_bad g k' vin v' _ HS2.out.blk).mono ?_
    rintro e w3 ⟨rfl,c,rfl⟩
    go_wp2_with fail
    go_end0
    exact ⟨rfl,below_drewN (HB2.out.setCell (by simp) _) c,v',o',(HS2.out.bad_).drewN c,by omega⟩
theorem one_any (ts:List Tk) (g n:Nat) (vin:Value) (hl:ts.length≤1000) (hF:QOne ts g vin n) (hF1:QReads ts g vin n 1):QOne ts g vin (n+1):=by
  intro k out R v w hR hk ho hT hS
  by_cases c4:knd ts k=4
  · rw [rd6_neg n out c4] at hR
    exact one_neg ts g n k vin v out R w hl hF hk ho hT hS c4 hR
  · by_cases co:isOpd (knd ts k)=true
    · rw [rd6_opd n out co] at hR
      injection hR with hR
      subst hR
      have hlt:=opd_lt co
      have hT':=hT
      obtain ⟨A,cap,rfl,hc,hi⟩:=hT
      obtain ⟨b,o,rfl,hb,c0,c1,c2⟩:=hi k ts[k] (List.getElem?_eq_getElem hlt)
      rw [knd_at (List.getElem?_eq_getElem hlt)] at co
      rw [knd_at (List.getElem?_eq_getElem hlt),num_at (List.getElem?_eq_getElem hlt)]
      exact one_opd_here ts g k b o cap _ _ 0 v out w hl hlt ho hT' hS hb c0 c1 (knd_at (List.getElem?_eq_getElem hlt)) (opd_iff co)
    · by_cases c17:knd ts k=17
      · rw [rd6_open n out c17] at hR
        exact one_open ts g n k vin v out R w hl hF1 hk ho hT hS c17 hR
      · rw [rd6_bad n out c4 (by simpa using co) c17] at hR
        injection hR with hR
        subst hR
        exact one_bad ts g k vin v out w hl hk hT hS c4 (by simpa using co) c17
end Go.Proofs.YtfgkcjmeiabdjaaGreatDoor
/- Plain functions on postfixes: how many a token takes, whether tokens are a postfix, and its text, as a stack of texts; what is at a place of the stack is the text of what ends there. No program in this text. -/
namespace Go.Proofs.YtfgkcjmeiabdjaaGreatDoor
set_option linter.unusedVariables false

def tak (t:Tk):Int :=
  if t.2.2 ≠ 0 ∨ t.2.1 < 0 then -1
  else if t.1=1 ∨ (t.1=2∧t.2.1 < 26) then 0
  else if t.2.1 ≠ 0 then -1
  else if t.1=15 ∨ t.1=16 then 0
  else if t.1=14 ∨ t.1=19 then 1
  else if lvl t.1 ≠ 0 then 2 else -1
def cnt:List Tk→Int→Option Int
  | [],n=>some n
  | t :: r,n=>if tak t < 0 ∨ n < tak t then none else cnt r (n - tak t+1)
def mayP (ts:List Tk):Bool:=decide (ts.length≤100) && decide (cnt ts 0=some 1)
def sgn (t:Tk):List UInt8 :=
  if t.1=19 then [45] else if t.1=14 then [110,111,116,32] else if t.1=12 then [32,97,110,100,32] else if t.1=13 then [32,111,114,32] else textB t
structure El where
  s:List UInt8
  f:Nat
  ok:Bool
def unS (t:Tk) (x:List UInt8):List UInt8:=[40] ++ sgn t ++ x ++ [41]
def binS (t:Tk) (a b:List UInt8):List UInt8:=[40] ++ a ++ sgn t ++ b ++ [41]
def step (i:Nat) (t:Tk) (S:List El):List El :=
  if tak t=0 then ⟨textB t,i,true⟩ :: S
  else if tak t=1 then
    match S with
    | x :: S'=>⟨unS t x.s,x.f,x.ok && decide ((unS t x.s).length≤200)⟩ :: S'
    | []=>[]
  else
    match S with
    | b :: a :: S'=>⟨binS t a.s b.s,a.f,b.ok && (a.ok && decide ((binS t a.s b.s).length≤200))⟩ :: S'
    | _=>[]
def stk (ts:List Tk):Nat→List El
  | 0=>[]
  | i+1=>step i (ts.getD i (0,0,0)) (stk ts i)
def Valid (ts:List Tk) (i:Nat):Prop:=∀ j,j < i→0≤tak (ts.getD j (0,0,0))∧tak (ts.getD j (0,0,0))≤(stk ts j).length
theorem Valid.mono {ts:List Tk} {i j:Nat} (h:Valid ts i) (hj:j≤i):Valid ts j:=fun k hk=>h k (by omega)
theorem tak_cases (t:Tk):tak t=-1 ∨ tak t=0 ∨ tak t=1 ∨ tak t=2:=by
  unfold tak
  split; · simp
  split; · simp
  split; · simp
  split; · simp
  split; · simp
  split <;> simp
theorem step_len {i:Nat} {t:Tk} {S:List El} (h0:0≤tak t) (h:tak t≤S.length):((step i t S).length:Int)=S.length - tak t+1:=by
  unfold step
  rcases tak_cases t with c | c | c | c
  · omega
  · rw [if_pos c,c]; simp
  · rw [if_neg (by omega),if_pos c,c]
    rcases S with _ | ⟨x,S'⟩
    · simp at h; omega
    · simp
  · rw [if_neg (by omega),if_neg (by omega),c]
    rcases S with _ | ⟨x,_ | ⟨y,S'⟩⟩
    · simp at h; omega
    · simp at h; omega
    · simp; omega
theorem valid_len {ts:List Tk} {i:Nat} (h:Valid ts (i+1)):((stk ts (i+1)).length:Int)=(stk ts i).length - tak (ts.getD i (0,0,0))+1:=step_len (h i (by omega)).1 (h i (by omega)).2
theorem cnt_valid (ts:List Tk) (c:Int):∀ (n j:Nat),ts.length - j≤n→j≤ts.length→Valid ts j→cnt (ts.drop j) (stk ts j).length=some c→Valid ts ts.length∧((stk ts ts.length).length:Int)=c
  | 0,j,h,hj,hv,hc=>by
    obtain rfl:j=ts.length:=by omega
    rw [List.drop_length,cnt] at hc
    injection hc with hc
    exact ⟨hv,hc⟩
  | n+1,j,h,hj,hv,hc=>by
    rcases Nat.lt_or_ge j ts.length with hlt | hge
    · rw [List.drop_eq_getElem_cons hlt,cnt] at hc
      have hg:ts.getD j (0,0,0)=ts[j]:=by simp [List.getD,List.getElem?_eq_getElem hlt]
      by_cases hn:tak ts[j] < 0 ∨ ((stk ts j).length:Int) < tak ts[j]
      · rw [if_pos hn] at hc; cases hc
      · rw [if_neg hn] at hc
        have hv1:Valid ts (j+1):=fun k hk=>by
          rcases Nat.lt_or_ge k j with h1 | h1
          · exact hv k h1
          · obtain rfl:k=j:=by omega
            rw [hg]; omega
        refine cnt_valid ts c n (j+1) (by omega) (by omega) hv1 ?_
        rw [valid_len hv1,hg]; exact hc
    · obtain rfl:j=ts.length:=by omega
      rw [List.drop_length,cnt] at hc
      injection hc with hc
      exact ⟨hv,hc⟩
theorem mayP_valid {ts:List Tk} (h:mayP ts=true):ts.length≤100∧Valid ts ts.length∧∃ x,stk ts ts.length=[x]:=by
  unfold mayP at h
  simp only [Bool.and_eq_true,decide_eq_true_eq] at h
  obtain ⟨hv,hl⟩:=cnt_valid ts 1 ts.length 0 (by omega) (by omega) (fun j hj=>by omega) h.2
  refine ⟨h.1,hv,?_⟩
  rcases hs:stk ts ts.length with _ | ⟨x,_ | ⟨y,S⟩⟩
  · rw [hs] at hl; simp at hl
  · exact ⟨x,rfl⟩
  · rw [hs] at hl; simp at hl; omega
theorem stk_succ (ts:List Tk) (i:Nat):stk ts (i+1)=step i (ts.getD i (0,0,0)) (stk ts i):=rfl
theorem step0 {i:Nat} {t:Tk} (S:List El) (h:tak t=0):step i t S=⟨textB t,i,true⟩ :: S:=by unfold step; rw [if_pos h]
theorem step1 {i:Nat} {t:Tk} (x:El) (S:List El) (h:tak t=1):step i t (x :: S)=⟨unS t x.s,x.f,x.ok && decide ((unS t x.s).length≤200)⟩ :: S:=by unfold step; rw [if_neg (by omega),if_pos h]
theorem step2 {i:Nat} {t:Tk} (b a:El) (S:List El) (h:tak t=2):step i t (b :: a :: S)=⟨binS t a.s b.s,a.f,b.ok && (a.ok && decide ((binS t a.s b.s).length≤200))⟩ :: S:=by unfold step; rw [if_neg (by omega),if_neg (by omega)]
theorem stk_under (ts:List Tk):∀ (n i:Nat),i≤n→Valid ts i→∀ x S,stk ts i=x :: S→x.f < i∧S=stk ts x.f
  | n,0,_,_,x,S,h=>by cases h
  | 0,i+1,hn,_,_,_,_=>by omega
  | n+1,i+1,hn,hv,x,S,h=>by
    rw [stk_succ] at h
    have h0:=(hv i (by omega)).1
    have h1:=(hv i (by omega)).2
    rcases tak_cases (ts.getD i (0,0,0)) with c | c | c | c
    · omega
    · rw [step0 _ c] at h
      injection h with hx hS
      subst hx
      exact ⟨by simp,hS.symm⟩
    · rcases hs:stk ts i with _ | ⟨y,S'⟩
      · rw [hs,c] at h1; simp at h1
      · rw [hs,step1 _ _ c] at h
        injection h with hx hS
        have:=stk_under ts n i (by omega) (hv.mono (by omega)) y S' hs
        subst hx; subst hS
        exact ⟨by simp; omega,this.2⟩
    · rcases hs:stk ts i with _ | ⟨b,_ | ⟨a,S'⟩⟩
      · rw [hs,c] at h1; simp at h1
      · rw [hs,c] at h1; simp at h1
      · rw [hs,step2 _ _ _ c] at h
        injection h with hx hS
        have h2:=stk_under ts n i (by omega) (hv.mono (by omega)) b (a :: S') hs
        have h3:=stk_under ts n b.f (by omega) (hv.mono (by omega)) a S' h2.2.symm
        subst hx; subst hS
        exact ⟨by simp; omega,h3.2⟩
end Go.Proofs.YtfgkcjmeiabdjaaGreatDoor
/- The contracts of parse.takes and May, and of the document's Takes and May. -/
namespace Go.Proofs.YtfgkcjmeiabdjaaGreatDoor
open Go.ChangeShapes Go.WideShapes Go.ChangeAt Go.RowKit
set_option linter.unusedVariables false

def TakPost (t:Tk) (w:World) (e:Ending) (w':World):Prop :=
  Below w.heap.size w w'∧∃ n:Int,e=.returned (.tuple #[.int .i64 n,.bool (decide (0≤tak t))])∧(0≤tak t→n=tak t)∧0≤n∧n≤2
theorem tak_num (n:Int):tak (1,n,0)=if 0≤n then 0 else -1:=by unfold tak; simp only; by_cases h:0≤n <;> simp [h] <;> omega
theorem tak_var (n:Int):tak (2,n,0)=if 0≤n∧n≤25 then 0 else -1:=by
  unfold tak
  simp only
  by_cases h:0≤n∧n≤25
  · rw [if_neg (by omega),if_pos (Or.inr ⟨trivial,by omega⟩),if_pos h]
  · rw [if_neg h]
    by_cases h1:n < 0
    · rw [if_pos (by omega)]
    · rw [if_neg (by omega),if_neg (by omega),if_pos (by omega)]
theorem tak_at (k n a:Int) (h:a ≠ 0):tak (k,n,a)=-1:=by unfold tak; simp only; rw [if_pos (.inl h)]
def fixTak (k:Int):Int:=if k=15 ∨ k=16 then 0 else if k=14 ∨ k=19 then 1 else if lvl k ≠ 0 then 2 else -1
theorem tak_fix (k n:Int) (h1:k ≠ 1) (h2:k ≠ 2):tak (k,n,0)=if n=0 then fixTak k else -1:=by
  unfold tak fixTak
  simp only
  by_cases h:n=0
  · rw [if_neg (by omega),if_neg (by omega),if_neg (by omega),if_pos h]
  · rw [if_neg h]
    by_cases h3:n < 0
    · rw [if_pos (by omega)]
    · rw [if_neg (by omega),if_neg (by omega),if_pos (by omega)]
theorem tp_mk {t:Tk} {w w':World} {n:Int} {b:Bool} (hb:Below w.heap.size w w') (h0:0≤n) (h2:n≤2) (h:b=decide (0≤tak t)) (hn:0≤tak t→n=tak t):TakPost t w (.returned (.tuple #[.int .i64 n,.bool b])) w' :=
  ⟨hb,n,by rw [h],hn,h0,h2⟩
set_option maxHeartbeats 2000000 in
set_option maxRecDepth 100000 in
theorem takes_at (k n a:Int) (w:World) (h:a ≠ 0):Calls Tryz.prog 165 #[.agg #[.int .i64 k,.int .i64 n,.int .i64 a]] w (TakPost (k,n,a) w):=by
  have ha:(a == 0)=false:=by simpa using h
  have ha2:(a != 0)=true:=by simpa using h
  have HT:=Lib.hid (tak_at k n a h)
  clear h
  go_enter Tryz.func165,Tryz.ntmps165
  go_wp2
  go_ret2
  exact tp_mk ((Below.refl _ _).alloc (Nat.le_refl _) _) (by omega) (by omega) (by rw [HT.out]; rfl) (by rw [HT.out]; omega)
set_option maxHeartbeats 2000000 in
set_option maxRecDepth 100000 in
theorem takes_num (n:Int) (w:World):Calls Tryz.prog 165 #[.agg #[.int .i64 1,.int .i64 n,.int .i64 0]] w (TakPost (1,n,0) w):=by
  have HT:=Lib.hid (tak_num n)
  by_cases h:0≤n
  · have hd:decide (0≤n)=true:=by simpa using h
    go_enter Tryz.func165,Tryz.ntmps165
    go_wp2
    go_quiet (fail)
    go_wp2
    go_ret2
    exact tp_mk (below_drewN ((Below.refl _ _).alloc (Nat.le_refl _) _) _) (by omega) (by omega) (by rw [HT.out,if_pos h]; rfl) (by rw [HT.out,if_pos h]; omega)
  · have hd:decide (0≤n)=false:=by simpa using h
    go_enter Tryz.func165,Tryz.ntmps165
    go_wp2
    go_quiet (fail)
    go_wp2
    go_ret2
    exact tp_mk (below_drewN ((Below.refl _ _).alloc (Nat.le_refl _) _) _) (by omega) (by omega) (by rw [HT.out,if_neg (by simpa using hd)]; rfl) (by rw [HT.out,if_neg (by simpa using hd)]; omega)
set_option maxHeartbeats 4000000 in
set_option maxRecDepth 100000 in
theorem takes_var (n:Int) (w:World):Calls Tryz.prog 165 #[.agg #[.int .i64 2,.int .i64 n,.int .i64 0]] w (TakPost (2,n,0) w):=by
  have HT:=Lib.hid (tak_var n)
  by_cases h:0≤n
  · have hd:decide (0≤n)=true:=by simpa using h
    by_cases h2:n≤25
    · have hd2:decide (n≤25)=true:=by simpa using h2
      go_enter Tryz.func165,Tryz.ntmps165
      go_wp2
      go_quiet (fail)
      go_wp2
      go_ret2
      exact tp_mk (below_drewN ((Below.refl _ _).alloc (Nat.le_refl _) _) _) (by omega) (by omega) (by rw [HT.out,if_pos ⟨h,h2⟩]; rfl) (by rw [HT.out,if_pos ⟨h,h2⟩]; omega)
    · have hd2:decide (n≤25)=false:=by simpa using h2
      have HN:=Lib.hid (show ¬ (0≤n∧n≤25) by omega)
      go_enter Tryz.func165,Tryz.ntmps165
      go_wp2
      go_quiet (fail)
      go_wp2
      go_ret2
      exact tp_mk (below_drewN ((Below.refl _ _).alloc (Nat.le_refl _) _) _) (by omega) (by omega) (by rw [HT.out,if_neg HN.out]; rfl) (by rw [HT.out,if_neg HN.out]; omega)
  · have hd:decide (0≤n)=false:=by simpa using h
    have HN:=Lib.hid (show ¬ (0≤n∧n≤25) by omega)
    go_enter Tryz.func165,Tryz.ntmps165
    go_wp2
    go_quiet (fail)
    go_wp2
    go_ret2
    exact tp_mk (below_drewN ((Below.refl _ _).alloc (Nat.le_refl _) _) _) (by omega) (by omega) (by rw [HT.out,if_neg HN.out]; rfl) (by rw [HT.out,if_neg HN.out]; omega)
theorem fix_end {k n m:Int} (h:tak (k,n,0)=if n=0 then m else -1) (h0:0≤m):(n == 0)=decide (0≤tak (k,n,0))∧(0≤tak (k,n,0)→m=tak (k,n,0)):=by
  rw [h]
  by_cases hn:n=0
  · rw [if_pos hn]; subst hn; simp [h0]
  · rw [if_neg hn]; simp [hn]
set_option maxHeartbeats 8000000 in
set_option maxRecDepth 100000 in
theorem takes_fix (k n:Int) (w:World) (h:(k=15 ∨ k=16) ∨ (k=14 ∨ k=19) ∨ k=3 ∨ k=4 ∨ k=5 ∨ k=6 ∨ k=7 ∨ k=8 ∨ k=9 ∨ k=10 ∨ k=11 ∨ k=12 ∨ k=13):Calls Tryz.prog 165 #[.agg #[.int .i64 k,.int .i64 n,.int .i64 0]] w (TakPost (k,n,0) w):=by
  have hf:0≤fixTak k:=by rcases h with (rfl | rfl) | (rfl | rfl) | rfl | rfl | rfl | rfl | rfl | rfl | rfl | rfl | rfl | rfl | rfl <;> decide
  have HT:=Lib.hid (fix_end (tak_fix k n (by omega) (by omega)) hf)
  clear hf
  rcases h with (rfl | rfl) | (rfl | rfl) | rfl | rfl | rfl | rfl | rfl | rfl | rfl | rfl | rfl | rfl | rfl
  all_goals
    go_enter Tryz.func165,Tryz.ntmps165
    go_wp2
    go_quiet (fail)
    go_wp2
    go_ret2
    exact tp_mk (below_drewN ((Below.refl _ _).alloc (Nat.le_refl _) _) _) (by omega) (by omega) HT.out.1 HT.out.2
theorem fixTak_none {k:Int} (h:¬ ((k=15 ∨ k=16) ∨ (k=14 ∨ k=19) ∨ k=3 ∨ k=4 ∨ k=5 ∨ k=6 ∨ k=7 ∨ k=8 ∨ k=9 ∨ k=10 ∨ k=11 ∨ k=12 ∨ k=13)):fixTak k=-1:=by
  have h0:lvl k=0:=by
    unfold lvl
    rw [if_neg (by omega),if_neg (by omega),if_neg (by omega),if_neg (by omega),if_neg (by omega)]
  unfold fixTak
  rw [if_neg (by omega),if_neg (by omega),if_neg (by omega)]
set_option maxHeartbeats 4000000 in
set_option maxRecDepth 100000 in
theorem takes_none (k n:Int) (w:World) (h1:k ≠ 1) (h2:k ≠ 2) (h:¬ ((k=15 ∨ k=16) ∨ (k=14 ∨ k=19) ∨ k=3 ∨ k=4 ∨ k=5 ∨ k=6 ∨ k=7 ∨ k=8 ∨ k=9 ∨ k=10 ∨ k=11 ∨ k=12 ∨ k=13)):Calls Tryz.prog 165 #[.agg #[.int .i64 k,.int .i64 n,.int .i64 0]] w (TakPost (k,n,0) w):=by
  have HT:Hid (tak (k,n,0)=-1):=Lib.hid (by rw [tak_fix k n h1 h2,fixTak_none h]; split <;> rfl)
  have b1:(k == 1)=false:=by simpa using h1
  have b2:(k == 2)=false:=by simpa using h2
  have b15:(k == 15)=false:=by simp; omega
  have b16:(k == 16)=false:=by simp; omega
  have b14:(k == 14)=false:=by simp; omega
  have b19:(k == 19)=false:=by simp; omega
  have b3:(k == 3)=false:=by simp; omega
  have b4:(k == 4)=false:=by simp; omega
  have b5:(k == 5)=false:=by simp; omega
  have b6:(k == 6)=false:=by simp; omega
  have b7:(k == 7)=false:=by simp; omega
  have b8:(k == 8)=false:=by simp; omega
  have b9:(k == 9)=false:=by simp; omega
  have b10:(k == 10)=false:=by simp; omega
  have b11:(k == 11)=false:=by simp; omega
  have b12:(k == 12)=false:=by simp; omega
  have b13:(k == 13)=false:=by simp; omega
  clear h h1 h2
  go_enter Tryz.func165,Tryz.ntmps165
  go_wp2
  go_ret2
  exact tp_mk ((Below.refl _ _).alloc (Nat.le_refl _) _) (by omega) (by omega) (by rw [HT.out]; rfl) (by rw [HT.out]; omega)
theorem takes_any (t:Tk) (w:World):Calls Tryz.prog 165 #[.agg #[.int .i64 t.1,.int .i64 t.2.1,.int .i64 t.2.2]] w (TakPost t w):=by
  obtain ⟨k,n,a⟩:=t
  by_cases ha:a=0
  · subst ha
    by_cases h1:k=1
    · subst h1; exact takes_num n w
    · by_cases h2:k=2
      · subst h2; exact takes_var n w
      · by_cases h:(k=15 ∨ k=16) ∨ (k=14 ∨ k=19) ∨ k=3 ∨ k=4 ∨ k=5 ∨ k=6 ∨ k=7 ∨ k=8 ∨ k=9 ∨ k=10 ∨ k=11 ∨ k=12 ∨ k=13
        · exact takes_fix k n w h
        · exact takes_none k n w h1 h2 h
  · exact takes_at k n a w ha
end Go.Proofs.YtfgkcjmeiabdjaaGreatDoor
/- The contract of the document's Takes; the contracts of parse.May and of the document's May. -/
namespace Go.Proofs.YtfgkcjmeiabdjaaGreatDoor
open Go.ChangeShapes Go.WideShapes Go.ChangeAt Go.RowKit
set_option linter.unusedVariables false

theorem tak_neg (k n:Int) (h:n < 0):tak (k,n,0)=-1:=by unfold tak; simp only; rw [if_pos (.inr h)]
set_option maxHeartbeats 4000000 in
set_option maxRecDepth 100000 in
theorem rtakes_low (k n a:Int) (w:World) (h:a ≠ 0 ∨ a=0∧n < 0):Calls Tryz.prog 187 #[.agg #[.int .i64 k,.int .i64 n,.int .i64 a]] w fun e w'=>e=.returned (.int .i64 (-1))∧Below w.heap.size w w':=by
  rcases h with h | ⟨rfl,h⟩
  · have ha:(a == 0)=false:=by simpa using h
    have ha2:(a != 0)=true:=by simpa using h
    clear h
    go_enter Tryz.func187,Tryz.ntmps187
    go_wp2_with fail
    go_ret
    exact ⟨rfl,(Below.refl _ _).alloc (Nat.le_refl _) _⟩
  · have hd:decide (n < 0)=true:=by simpa using h
    go_enter Tryz.func187,Tryz.ntmps187
    go_wp2_with fail
    go_ret
    exact ⟨rfl,(Below.refl _ _).alloc (Nat.le_refl _) _⟩
set_option maxHeartbeats 4000000 in
set_option maxRecDepth 100000 in
theorem rtakes_num (n:Int) (w:World) (h:0≤n):Calls Tryz.prog 187 #[.agg #[.int .i64 1,.int .i64 n,.int .i64 0]] w fun e w'=>e=.returned (.int .i64 0)∧Below w.heap.size w w':=by
  have hd:decide (n < 0)=false:=by simpa using h
  go_enter Tryz.func187,Tryz.ntmps187
  go_wp2_with fail
  go_ret
  exact ⟨rfl,(Below.refl _ _).alloc (Nat.le_refl _) _⟩
set_option maxHeartbeats 4000000 in
set_option maxRecDepth 100000 in
theorem rtakes_var (n:Int) (w:World) (h:0≤n):Calls Tryz.prog 187 #[.agg #[.int .i64 2,.int .i64 n,.int .i64 0]] w fun e w'=>e=.returned (.int .i64 (if n≤25 then 0 else -1))∧Below w.heap.size w w':=by
  have hd:decide (n < 0)=false:=by simpa using h
  by_cases h2:n < 26
  · have hd2:decide (n < 26)=true:=by simpa using h2
    rw [if_pos (by omega)]
    go_enter Tryz.func187,Tryz.ntmps187
    go_wp2_with fail
    go_ret
    exact ⟨rfl,(Below.refl _ _).alloc (Nat.le_refl _) _⟩
  · have hd2:decide (n < 26)=false:=by simpa using h2
    have n0:(n == 0)=false:=by simp; omega
    have n1:(n != 0)=true:=by simp; omega
    rw [if_neg (by omega)]
    go_enter Tryz.func187,Tryz.ntmps187
    go_wp2_with fail
    go_ret
    exact ⟨rfl,(Below.refl _ _).alloc (Nat.le_refl _) _⟩
set_option maxHeartbeats 4000000 in
set_option maxRecDepth 100000 in
theorem rtakes_more (k n:Int) (w:World) (h:0 < n) (h1:k ≠ 1) (h2:k ≠ 2):Calls Tryz.prog 187 #[.agg #[.int .i64 k,.int .i64 n,.int .i64 0]] w fun e w'=>e=.returned (.int .i64 (-1))∧Below w.heap.size w w':=by
  have hd:decide (n < 0)=false:=by simp; omega
  have n0:(n == 0)=false:=by simp; omega
  have n1:(n != 0)=true:=by simp; omega
  have b1:(k == 1)=false:=by simpa using h1
  have b2:(k == 2)=false:=by simpa using h2
  clear h1 h2
  go_enter Tryz.func187,Tryz.ntmps187
  go_wp2_with fail
  go_ret
  exact ⟨rfl,(Below.refl _ _).alloc (Nat.le_refl _) _⟩
set_option maxHeartbeats 4000000 in
set_option maxRecDepth 100000 in
theorem rtakes_fix (k:Int) (w:World) (h1:k ≠ 1) (h2:k ≠ 2):Calls Tryz.prog 187 #[.agg #[.int .i64 k,.int .i64 0,.int .i64 0]] w fun e w'=>e=.returned (.int .i64 (fixTak k))∧Below w.heap.size w w':=by
  have b1:(k == 1)=false:=by simpa using h1
  have b2:(k == 2)=false:=by simpa using h2
  by_cases c:k=15 ∨ k=16
  · have HF:=Lib.hid (show fixTak k=0 by unfold fixTak; rw [if_pos c])
    clear h1 h2
    rcases c with rfl | rfl
    all_goals
      go_enter Tryz.func187,Tryz.ntmps187
      go_wp2_with fail
      go_ret
      exact ⟨ret_int HF.out.symm,(Below.refl _ _).alloc (Nat.le_refl _) _⟩
  · have b15:(k == 15)=false:=by simp; omega
    have b16:(k == 16)=false:=by simp; omega
    by_cases d:k=14 ∨ k=19
    · have HF:=Lib.hid (show fixTak k=1 by unfold fixTak; rw [if_neg c,if_pos d])
      clear h1 h2 c
      rcases d with rfl | rfl
      all_goals
        go_enter Tryz.func187,Tryz.ntmps187
        go_wp2_with fail
        go_ret
        exact ⟨ret_int HF.out.symm,(Below.refl _ _).alloc (Nat.le_refl _) _⟩
    · have b14:(k == 14)=false:=by simp; omega
      have b19:(k == 19)=false:=by simp; omega
      by_cases l:lvl k=0
      · have HF:=Lib.hid (show fixTak k=-1 by unfold fixTak; rw [if_neg c,if_neg d,if_neg (by omega)])
        have HLV:=Lib.hid l
        clear h1 h2 c d l
        go_enter Tryz.func187,Tryz.ntmps187
        go_wp2_with fail
        refine (level_any _ _).mono ?_
        rintro e w' ⟨rfl,rfl⟩
        rw [HLV.out]
        go_wp2_with fail
        go_ret
        exact ⟨ret_int HF.out.symm,(Below.refl _ _).alloc (Nat.le_refl _) _⟩
      · have HF:=Lib.hid (show fixTak k=2 by unfold fixTak; rw [if_neg c,if_neg d,if_pos l])
        have hp:0 < lvl k:=by omega
        generalize hg:lvl k=y at hp
        have HLV:=Lib.hid hg
        have hd1:decide (0 < y)=true:=by simpa using hp
        have hd2:decide ((0:Int) < (y:Int))=true:=by simp; omega
        clear h1 h2 c d l hg
        go_enter Tryz.func187,Tryz.ntmps187
        go_wp2_with fail
        refine (level_any _ _).mono ?_
        rintro e w' ⟨rfl,rfl⟩
        rw [HLV.out]
        go_wp2_with fail
        go_ret
        exact ⟨ret_int HF.out.symm,(Below.refl _ _).alloc (Nat.le_refl _) _⟩
theorem rtakes_any (t:Tk) (w:World):Calls Tryz.prog 187 #[.agg #[.int .i64 t.1,.int .i64 t.2.1,.int .i64 t.2.2]] w fun e w'=>e=.returned (.int .i64 (tak t))∧Below w.heap.size w w':=by
  obtain ⟨k,n,a⟩:=t
  by_cases ha:a=0
  · subst ha
    by_cases hn:n < 0
    · rw [tak_neg k n hn]; exact rtakes_low k n 0 w (.inr ⟨rfl,hn⟩)
    · by_cases h1:k=1
      · subst h1; rw [tak_num,if_pos (by omega)]; exact rtakes_num n w (by omega)
      · by_cases h2:k=2
        · subst h2
          have:=rtakes_var n w (by omega)
          rw [tak_var]
          by_cases h25:n≤25
          · rw [if_pos h25] at this; rw [if_pos ⟨by omega,h25⟩]; exact this
          · rw [if_neg h25] at this; rw [if_neg (by omega)]; exact this
        · rw [tak_fix k n h1 h2]
          by_cases h0:n=0
          · subst h0; rw [if_pos rfl]; exact rtakes_fix k w h1 h2
          · rw [if_neg h0]; exact rtakes_more k n w (by omega) h1 h2
  · rw [tak_at k n a ha]; exact rtakes_low k n a w (.inl ha)
end Go.Proofs.YtfgkcjmeiabdjaaGreatDoor
/- The contracts of parse.May and of the document's May. -/
namespace Go.Proofs.YtfgkcjmeiabdjaaGreatDoor
open Go.ChangeShapes Go.WideShapes Go.ChangeAt Go.RowKit
set_option linter.unusedVariables false

theorem cnt_none {t:Tk} {r:List Tk} {n:Int} (h:tak t < 0 ∨ n < tak t):cnt (t :: r) n=none:=by rw [cnt,if_pos h]
theorem cnt_some {t:Tk} {r:List Tk} {n:Int} (h0:0≤tak t) (h:tak t≤n):cnt (t :: r) n=cnt r (n - tak t+1):=by rw [cnt,if_neg (by omega)]
theorem drop_at {ts:List Tk} {k:Nat} (h:k < ts.length):ts.drop k=ts[k] :: ts.drop (k+1):=List.drop_eq_getElem_cons h
def isOne (C:Option Int):Bool:=decide (C=some 1)
theorem isOne_none:isOne none=false:=rfl
theorem isOne_some (n:Int):isOne (some n)=(n == 1):=by unfold isOne; rw [Bool.eq_iff_iff]; simp
theorem mayP_eq (ts:List Tk):mayP ts=(decide (ts.length≤100) && isOne (cnt ts 0)):=rfl
set_option maxHeartbeats 4000000 in
set_option maxRecDepth 100000 in
theorem may_near (v:Value) (ts:List Tk) (w:World) (hv:ToksAt w v ts) (hl:ts.length≤100):Calls Tryz.prog 153 #[v] w fun e w'=>e=.returned (.bool (isOne (cnt ts 0)))∧Below w.heap.size w w':=by
  obtain ⟨A,cap,rfl,hc,hel⟩:=hv
  have HE:=Lib.hid hel
  clear hel
  go_enter Tryz.func153,Tryz.ntmps153
  go_wp2_with fail
  go_loopw [3,13] (fun l i wr=>∃ (k:Nat) (n:Int),k≤ts.length∧i=.int .i64 (k:Int)∧l=.int .i64 n∧0≤n∧n≤k∧Hid (cnt (ts.drop k) n=cnt ts 0)∧Below w.heap.size w wr) (fun _ i _=>ts.length - (intOf i).toNat)
  case atStart=>exact ⟨0,0,Nat.zero_le _,rfl,rfl,by omega,by omega,Lib.hid rfl,Below.refl _ _⟩
  case round =>
    obtain ⟨k,n,hk,rfl,rfl,hn0,hnk,hC,hb⟩:=hrel
    obtain ⟨wo,rfl⟩:∃ wo:World,wo=wr:=⟨_,rfl⟩
    by_cases hlt:k < ts.length
    · obtain ⟨b,o,rfl,hbw,c0,c1,c2⟩:=HE.out k ts[k] (List.getElem?_eq_getElem hlt)
      have c0:wo.cell? ⟨b,o+k * 3,none⟩=_:=(hb.cell (p:=⟨b,_,none⟩) hbw).trans c0
      have c1:wo.cell? ⟨b,o+k * 3+1,none⟩=_:=(hb.cell (p:=⟨b,_,none⟩) hbw).trans c1
      have c2:wo.cell? ⟨b,o+k * 3+2,none⟩=_:=(hb.cell (p:=⟨b,_,none⟩) hbw).trans c2
      have HD:=Lib.hid (drop_at hlt)
      generalize ts[k]=t at *
      have HB1:=Lib.hid ((Below.refl wo.heap.size wo).alloc (Nat.le_refl _) (.cells #[.int .i64 t.1,.int .i64 t.2.1,.int .i64 t.2.2] 184))
      by_cases ht:0≤tak t
      · have hd:decide (0≤tak t)=true:=by simpa using ht
        by_cases hq:tak t≤n
        · have HC:=Lib.hid (show cnt (ts.drop (k+1)) (n - tak t+1)=cnt ts 0 by rw [← hC.out,HD.out,cnt_some ht hq])
          clear hC
          go_wp2_with fail
          refine (takes_any t _).mono ?_
          rintro e w1 ⟨hb1,m,rfl,hm,hm0,hm2⟩
          rw [hd]
          have hmt:=hm ht
          have HX:=Lib.hid ((hb.trans (HB1.out.mono hb.size)).trans (hb1.mono (by simp; have:=hb.size; omega)))
          have HMT:=Lib.hid hmt
          have hq':m≤n:=by omega
          clear hm hmt hb1 ht hq hd
          go_wp2
          go_roundw
          case rel=>exact ⟨k+1,n - m+1,by omega,by go_num,by congr 1; omega,by omega,by omega,Lib.hid (by rw [HMT.out]; exact HC.out),HX.out⟩
          case measure=>simp [intOf]; omega
        · have HC:=Lib.hid (show cnt ts 0=none by rw [← hC.out,HD.out,cnt_none (.inr (by omega))])
          clear hC
          go_wp2_with fail
          refine (takes_any t _).mono ?_
          rintro e w1 ⟨hb1,m,rfl,hm,hm0,hm2⟩
          rw [hd]
          have hmt:=hm ht
          have HX:=Lib.hid ((hb.trans (HB1.out.mono hb.size)).trans (hb1.mono (by simp; have:=hb.size; omega)))
          have hq':n < m:=by omega
          clear hm hmt hb1 ht hq hd
          go_wp2
          go_ret
          exact ⟨by rw [HC.out]; rfl,HX.out⟩
      · have hd:decide (0≤tak t)=false:=by simpa using ht
        have HC:=Lib.hid (show cnt ts 0=none by rw [← hC.out,HD.out,cnt_none (.inl (by omega))])
        clear hC
        go_wp2_with fail
        refine (takes_any t _).mono ?_
        rintro e w1 ⟨hb1,m,rfl,hm,hm0,hm2⟩
        rw [hd]
        have HX:=Lib.hid ((hb.trans (HB1.out.mono hb.size)).trans (hb1.mono (by simp; have:=hb.size; omega)))
        clear hm hb1 ht hd
        go_wp2
        go_ret
        exact ⟨by rw [HC.out]; rfl,HX.out⟩
    · obtain rfl:k=ts.length:=by omega
      have HC:=Lib.hid (show cnt ts 0=some n by rw [← hC.out,List.drop_length,cnt])
      clear hC
      go_wp2
      go_ret
      exact ⟨by rw [HC.out,isOne_some]; rfl,hb⟩
set_option maxHeartbeats 1000000 in
theorem may_far (v:Value) (ts:List Tk) (w:World) (hv:ToksAt w v ts) (hl:100 < ts.length) (hl2:ts.length≤1000000):Calls Tryz.prog 153 #[v] w fun e w'=>e=.returned (.bool false)∧Below w.heap.size w w':=by
  obtain ⟨A,cap,rfl,hc,hel⟩:=hv
  clear hel
  go_enter Tryz.func153,Tryz.ntmps153
  go_wp2_with fail
  go_ret
  exact ⟨rfl,Below.refl _ _⟩
theorem may_any (v:Value) (ts:List Tk) (w:World) (hv:ToksAt w v ts) (hl2:ts.length≤1000000):Calls Tryz.prog 153 #[v] w fun e w'=>e=.returned (.bool (mayP ts))∧Below w.heap.size w w':=by
  rw [mayP_eq]
  by_cases h:ts.length≤100
  · rw [decide_eq_true h,Bool.true_and]; exact may_near v ts w hv h
  · rw [decide_eq_false h,Bool.false_and]; exact may_far v ts w hv (by omega) hl2

set_option maxHeartbeats 4000000 in
set_option maxRecDepth 100000 in
theorem rmay_any (v:Value) (ts:List Tk) (w:World) (hv:ToksAt w v ts) (hl:ts.length≤1000):Calls Tryz.prog 171 #[v] w fun e w'=>e=.returned (.bool (mayP ts))∧Below w.heap.size w w':=by
  have HMP:=Lib.hid (mayP_eq ts)
  obtain ⟨A,cap,rfl,hc,hel⟩:=hv
  have HE:=Lib.hid hel
  clear hel
  go_enter Tryz.func171,Tryz.ntmps171
  go_wp2_with fail
  go_loopw [3,4] (fun l i wr=>∃ (k:Nat) (n:Int),k≤ts.length∧i=.int .i64 (k:Int)∧l=.int .i64 n∧0≤n∧n≤k∧Hid (cnt (ts.drop k) n=cnt ts 0)∧Below w.heap.size w wr) (fun _ i _=>ts.length - (intOf i).toNat)
  case atStart=>exact ⟨0,0,Nat.zero_le _,rfl,rfl,by omega,by omega,Lib.hid rfl,Below.refl _ _⟩
  case round =>
    obtain ⟨k,n,hk,rfl,rfl,hn0,hnk,hC,hb⟩:=hrel
    obtain ⟨wo,rfl⟩:∃ wo:World,wo=wr:=⟨_,rfl⟩
    by_cases hlt:k < ts.length
    · obtain ⟨b,o,rfl,hbw,c0,c1,c2⟩:=HE.out k ts[k] (List.getElem?_eq_getElem hlt)
      have c0:wo.cell? ⟨b,o+k * 3,none⟩=_:=(hb.cell (p:=⟨b,_,none⟩) hbw).trans c0
      have c1:wo.cell? ⟨b,o+k * 3+1,none⟩=_:=(hb.cell (p:=⟨b,_,none⟩) hbw).trans c1
      have c2:wo.cell? ⟨b,o+k * 3+2,none⟩=_:=(hb.cell (p:=⟨b,_,none⟩) hbw).trans c2
      have HD:=Lib.hid (drop_at hlt)
      generalize ts[k]=t at *
      have htc:=tak_cases t
      generalize hg:tak t=m at htc
      have HM:=Lib.hid hg
      clear hg
      by_cases ht:0≤m
      · by_cases hq:m≤n
        · have HC:=Lib.hid (show cnt (ts.drop (k+1)) (n - m+1)=cnt ts 0 by rw [← hC.out,HD.out,cnt_some (by rw [HM.out]; exact ht) (by rw [HM.out]; exact hq),HM.out])
          have hd1:decide (m < 0)=false:=by simpa using ht
          have hd2:decide (n < m)=false:=by simpa using hq
          have hm2:m≤2:=by omega
          clear hC htc
          go_wp2_with fail
          refine (rtakes_any t _).mono ?_
          rintro e w1 ⟨rfl,hb1⟩
          rw [HM.out]
          have HX:=Lib.hid (hb.trans (hb1.mono hb.size))
          clear hb1
          go_wp2
          go_roundw
          case rel=>exact ⟨k+1,n - m+1,by omega,by go_num,rfl,by omega,by omega,HC,HX.out⟩
          case measure=>simp [intOf]; omega
        · have HC:=Lib.hid (show cnt ts 0=none by rw [← hC.out,HD.out,cnt_none (.inr (by rw [HM.out]; omega))])
          have hd1:decide (m < 0)=false:=by simpa using ht
          have hd2:decide (n < m)=true:=by simpa using hq
          have hd3:n < m:=by omega
          clear hC htc
          go_wp2_with fail
          refine (rtakes_any t _).mono ?_
          rintro e w1 ⟨rfl,hb1⟩
          rw [HM.out]
          have HX:=Lib.hid (hb.trans (hb1.mono hb.size))
          clear hb1
          go_wp2
          go_ret
          exact ⟨by rw [HMP.out,HC.out,isOne_none,Bool.and_false]; rfl,HX.out⟩
      · have HC:=Lib.hid (show cnt ts 0=none by rw [← hC.out,HD.out,cnt_none (.inl (by rw [HM.out]; omega))])
        have hd1:decide (m < 0)=true:=by simpa using ht
        have hd3:m < 0:=by omega
        clear hC htc
        go_wp2_with fail
        refine (rtakes_any t _).mono ?_
        rintro e w1 ⟨rfl,hb1⟩
        rw [HM.out]
        have HX:=Lib.hid (hb.trans (hb1.mono hb.size))
        clear hb1
        go_wp2
        go_ret
        exact ⟨by rw [HMP.out,HC.out,isOne_none,Bool.and_false]; rfl,HX.out⟩
    · obtain rfl:k=ts.length:=by omega
      have HC:=Lib.hid (show cnt ts 0=some n by rw [← hC.out,List.drop_length,cnt])
      clear hC
      by_cases hn1:n=1
      · subst hn1
        by_cases h100:ts.length≤100
        · have hd:decide (ts.length≤100)=true:=by simpa using h100
          have hd2:decide ((ts.length:Int)≤100)=true:=by simp; omega
          go_wp2
          go_ret
          exact ⟨by rw [HMP.out,HC.out,isOne_some,hd]; rfl,hb⟩
        · have hd:decide (ts.length≤100)=false:=by simpa using h100
          have hd2:decide ((ts.length:Int)≤100)=false:=by simp; omega
          go_wp2
          go_ret
          exact ⟨by rw [HMP.out,HC.out,isOne_some,hd]; rfl,hb⟩
      · have hn1':(n == 1)=false:=by simpa using hn1
        clear hn1
        go_wp2
        go_ret
        exact ⟨by rw [HMP.out,HC.out,isOne_some,hn1',Bool.and_false]; rfl,hb⟩
end Go.Proofs.YtfgkcjmeiabdjaaGreatDoor
