/- The contracts of parse's reader's operator (a token is passed by, one more is read, and a token is put behind it) and operand. -/
import Derived.Test.YtmhkpjcdkjnlnaaGreatDoorFUPkind
import Derived.RegionTactic
import Derived.BigRegion
import Derived.StillTactics
import Derived.Laws.Pointers
import Derived.Deep.RegionHeld3
import Derived.Deep.RegionLaw
import Derived.Deep.AppendLies
import Derived.Deep.LoopGhost
namespace Go.Proofs.YtmhkpjcdkjnlnaaGreatDoor
open Go.ChangeShapes Go.WideShapes Go.ChangeAt Go.RowKit
set_option linter.unusedVariables false

def opR (kd:Int):Res→Res
 | .ok k o=>.ok k (o ++ [(kd,0,0)])
 | .bad k=>.bad k
theorem thenR_op {r:Option Res} {kd:Int} {R:Res} (h:thenR r (fun k o=>some (.ok k (o ++ [(kd,0,0)])))=some R):∃ R1,r=some R1∧R=opR kd R1:=by
 rcases thenR_some h with ⟨k,h1,rfl⟩ | ⟨k,o,h1,h2⟩
 · exact ⟨_,h1,rfl⟩
 · injection h2 with h2; exact ⟨_,h1,h2.symm⟩
theorem slice_of_own {w:World} {B:Nat} {e:TypeId} {s n:Nat} {v:Value} {xs:List Value} (h:w.ownsRow B e s v (n+1) xs):∃ g cap,v=.slice (some ⟨g,0,none⟩) (n+1) cap:=by
 rcases h.2 with ⟨_,h⟩ | ⟨a,b,_,h,_⟩
 · omega
 · exact ⟨a,b,h⟩
theorem Blk.grown {w w':World} {g:Nat} {t:TypeId} {cs:Array Value} {row:Option Nat} (h:Blk w g t cs) (hg:w.grownBy w' row) (hr:some g ≠ row):Blk w' g t cs:=(hg.block g h.lt hr).trans h
theorem RSt.put {g k:Nat} {vin v v':Value} {w w':World} {o:List Tk} {t:Tk} (h:RSt g vin w k v o) (hg:w.grownBy w' v.ownBlock) (ho:w'.ownsRow (g+1) 192 3 v' (o.length+1) (tksCells o ++ tkCells t)):RSt g vin (w'.setCell ⟨g,2,none⟩ v') k v' (o ++ [t]):=by
 have hne:some g ≠ v.ownBlock:=fun hc=>by have:=(h.own.lt g hc.symm).1; omega
 exact ⟨(h.blk.grown hg hne).set_ 2 v',own_set (own_snoc ho) 2 v' (Nat.lt_succ_self g)⟩

def Enters (F:Nat):Prop:=∀ (args:Array Value) (w:World),Sem.run Tryz.prog (callFunc F args) w=.ok (.enter F args) w
theorem enters_of {F : Nat} {fn : Func} {c : Code} (hf : Tryz.prog.funcs[F]? = some fn) (hn : (fn.name == "runtime.NumGoroutine") = false) (hb : fn.body = some c) : Enters F := fun args w => by
 simp only [beq_eq_false_iff_ne,ne_eq] at hn
 simp [callFunc,go_sem,hf,hn,hb]
theorem enters52:Enters 201:=enters_of Tryz.func201 (by kernel_rfl) rfl
set_option maxHeartbeats 1000000 in
set_option maxRecDepth 100000 in
theorem operator_ok (ts:List Tk) (g F k k':Nat) (kd:Int) (vin v:Value) (out o':List Tk) (w:World) (hk:k+1≤1000000) (hS:RSt g vin w k v out) (ho:o'.length≤1000000) (hE:Enters F)
 (HF:∀ w0,w0=w.setCell ⟨g,1,none⟩ (.int .i64 (k+1:Nat))→Calls Tryz.prog F #[.pointer (some ⟨g,0,none⟩)] w0 (RPost g vin (.ok k' o') v w0)) :
 Calls Tryz.prog 216 #[.pointer (some ⟨g,0,none⟩),.func (.func F) #[.pointer (some ⟨g,0,none⟩)] #[],.int .i64 kd] w (RPost g vin (.ok k' (o' ++ [(kd,0,0)])) v w):=by
 obtain ⟨i0,hi,hz0,hz1,hz2⟩:=info_parts Tryz.info40
 have HI:=Lib.hid hi
 have HZ0:=Lib.hid hz0
 have HZ1:=Lib.hid hz1
 have HZ2:=Lib.hid hz2
 have HH:=Lib.hid HF
 have HS:=Lib.hid hS
 obtain ⟨⟨c0,c1,c2⟩,f0,f1,f2⟩:=hS.blk.facts3
 clear hi hz0 hz1 hz2 HF hS
 unfold Enters at hE
 go_enter Tryz.func216,Tryz.ntmps216
 go_wp2_with fail
 refine (HH.out _ (by go_num)).mono ?_
 rintro e w1 ⟨rfl,v1,hk1,hS1⟩
 have HK:=Lib.hid (((Kept.refl g v w).set 1 _).trans hk1)
 have HS1:=Lib.hid hS1
 have hg:=hS1.lt
 obtain ⟨⟨d0,d1,d2⟩,e0,e1,e2⟩:=hS1.blk.facts3
 clear c0 c1 c2 f0 f1 f2 hk1 hS1
 go_wp2_with (at_builtin; refine wpList_append_own_at _ rfl _ _ 136 rfl (g+1) 192 i0 (.agg #[.int .i64 0,.int .i64 0,.int .i64 0]) 3 24 Tryz.underlying136 HI.out HZ0.out HZ1.out HZ2.out rfl (by decide) _ _ _ rfl (HS1.out.own.alloc _) ⟨w1.heap.size,0,none⟩ 1 1 (tkCells (kd,0,0)) rfl rfl ?c1 ?c2 ?c3 ?c4 ?c5 ?_)
 case c1=>exact new_cells _ _ (kd,0,0) _ rfl
 case c2=>exact tk_one _
 case c3=>unfold maxLen; omega
 case c4=>omega
 case c5=>simp; omega
 intro v2 w2 hown hgrow _ hrow
 obtain ⟨g2,cap2,rfl⟩:=slice_of_own hown
 have HA:=Lib.hid ((HS1.out.kept ((Below.refl _ _).alloc (Nat.le_refl _) _)).put hgrow hown)
 have HB:=Lib.hid (((HK.out.alloc _).grown hgrow (by simpa using hrow)).set 2 (.slice (some ⟨g2,0,none⟩) (o'.length+1) cap2))
 have hne:some g ≠ v1.ownBlock:=fun hc=>by have:=(HS1.out.own.lt g hc.symm).1; omega
 obtain ⟨⟨d0,d1,d2⟩,e0,e1,e2⟩:=((HS1.out.blk.alloc _).grown hgrow hne).facts3
 clear hown hgrow hrow hne
 go_wp2
 go_ret
 exact ⟨rfl,_,HB.out,HA.out⟩
set_option maxHeartbeats 1000000 in
set_option maxRecDepth 100000 in
theorem operator_bad (ts:List Tk) (g F k k':Nat) (kd:Int) (vin v:Value) (out:List Tk) (w:World) (hk:k+1≤1000000) (hS:RSt g vin w k v out) (hE:Enters F)
 (HF:∀ w0,w0=w.setCell ⟨g,1,none⟩ (.int .i64 (k+1:Nat))→Calls Tryz.prog F #[.pointer (some ⟨g,0,none⟩)] w0 (RPost g vin (.bad k') v w0)) :
 Calls Tryz.prog 216 #[.pointer (some ⟨g,0,none⟩),.func (.func F) #[.pointer (some ⟨g,0,none⟩)] #[],.int .i64 kd] w (RPost g vin (.bad k') v w):=by
 have HH:=Lib.hid HF
 have HS:=Lib.hid hS
 obtain ⟨⟨c0,c1,c2⟩,f0,f1,f2⟩:=hS.blk.facts3
 clear HF hS
 unfold Enters at hE
 go_enter Tryz.func216,Tryz.ntmps216
 go_wp2_with fail
 refine (HH.out _ (by go_num)).mono ?_
 rintro e w1 ⟨rfl,v1,o1,hk1,hS1⟩
 have HK:=Lib.hid (((Kept.refl g v w).set 1 _).trans hk1)
 have HS1:=Lib.hid hS1
 clear c0 c1 c2 f0 f1 f2 hk1 hS1
 go_wp2
 go_ret
 exact ⟨rfl,_,_,HK.out,HS1.out⟩
theorem operator_any (ts:List Tk) (g F n lv k:Nat) (kd:Int) (vin v:Value) (out:List Tk) (R:Res) (w:World) (hF:Reads ts g vin n lv F) (hE:Enters F) (hk:k+1≤ts.length) (hl:ts.length≤1000) (ho:out.length≤k)
 (hT:ToksU g w vin ts) (hS:RSt g vin w k v out) (hR:thenR (rd ts n lv (k+1) out) (fun k o=>some (.ok k (o ++ [(kd,0,0)])))=some R) :
 Calls Tryz.prog 216 #[.pointer (some ⟨g,0,none⟩),.func (.func F) #[.pointer (some ⟨g,0,none⟩)] #[],.int .i64 kd] w (RPost g vin R v w):=by
 obtain ⟨R1,h1,rfl⟩:=thenR_op hR
 have hb:Below g w (w.setCell ⟨g,1,none⟩ (.int .i64 (k+1:Nat))):=(Below.refl _ _).setCell (by simp) _
 have h:=hF (k+1) out R1 v _ h1 hk (by omega) (hT.below hb) (hS.at_ (k+1))
 have hf:=rd_fits ts n lv (k+1) out R1 h1 hk
 cases R1 with
 | ok k' o'=>exact operator_ok ts g F k k' kd vin v out o' w (by omega) hS (by unfold Fits at hf; omega) hE (fun w0 h0=>h0 ▸ h)
 | bad k'=>exact operator_bad ts g F k k' kd vin v out w (by omega) hS hE (fun w0 h0=>h0 ▸ h)

theorem Blk.drew {w:World} {g:Nat} {t:TypeId} {cs:Array Value} (h:Blk w g t cs):Blk w.drew g t cs:=h
set_option maxHeartbeats 2000000 in
set_option maxRecDepth 100000 in
theorem operand_here (ts:List Tk) (g k b o cap:Nat) (v:Value) (x y z:Int) (out:List Tk) (w:World) (hS:RSt g (.slice (some ⟨b,o,none⟩) ts.length cap) w k v out) (hk:k < ts.length) (hl:ts.length≤1000) (ho:out.length≤k) (hb:b < g)
 (h0:w.cell? ⟨b,o+k * 3,none⟩=some (.int .i64 x)) (h1:w.cell? ⟨b,o+k * 3+1,none⟩=some (.int .i64 y)) (h2:w.cell? ⟨b,o+k * 3+2,none⟩=some (.int .i64 z)) :
 Calls Tryz.prog 270 #[.pointer (some ⟨g,0,none⟩)] w fun e w'=>e=.returned (.tuple #[])∧∃ v',Kept g v w w' v'∧RSt g (.slice (some ⟨b,o,none⟩) ts.length cap) w' (k+1) v' (out ++ [(x,y,0)]):=by
 obtain ⟨i0,hi,hz0,hz1,hz2⟩:=info_parts Tryz.info40
 have HI:=Lib.hid hi
 have HZ0:=Lib.hid hz0
 have HZ1:=Lib.hid hz1
 have HZ2:=Lib.hid hz2
 have HS:=Lib.hid hS
 obtain ⟨⟨c0,c1,c2⟩,f0,f1,f2⟩:=hS.blk.facts3
 have hg:=hS.lt
 have hbw:b < w.heap.size:=by omega
 have hk0:(0:Int)≤(k:Int):=Int.natCast_nonneg _
 have hk1:(k:Int) < (ts.length:Int):=by omega
 clear hi hz0 hz1 hz2 hS
 go_enter Tryz.func270,Tryz.ntmps270
 go_wp2_with fail
 go_region
 all_goals go_wp2_with fail
 clear c0 c1 c2 f0 f1 f2 h0 h1 h2
 have hv:v.ownBlock ≠ some w.heap.size:=fun hc=>by have:=(HS.out.own.lt _ hc).2; omega
 have hvg:v.ownBlock ≠ some g:=fun hc=>by have:=(HS.out.own.lt _ hc).1; omega
 have hs1:(w.setCell ⟨g,1,none⟩ (.int .i64 ((k:Int)+1))).heap.size=w.heap.size:=by simp
 have HS1:=Lib.hid (((HS.out.at_ (k+1)).kept ((Below.refl _ _).alloc (Nat.le_refl _) (.cells #[.int .i64 x,.int .i64 y,.int .i64 z] 192))).drewN 1)
 have HM:=Lib.hid ((Blk.new_at (w.setCell ⟨g,1,none⟩ (.int .i64 ((k:Int)+1))) 192 #[.int .i64 x,.int .i64 y,.int .i64 z] w.heap.size hs1).drewN 1)
 have HK:=Lib.hid ((((Kept.refl g v w).set 1 (.int .i64 ((k:Int)+1))).alloc (.cells #[.int .i64 x,.int .i64 y,.int .i64 z] 192)).drewN 1)
 clear hs1
 generalize hw1:((w.setCell ⟨g,1,none⟩ (.int .i64 ((k:Int)+1))).alloc (.cells #[.int .i64 x,.int .i64 y,.int .i64 z] 192)).drew=w1
 have HS2:Hid (RSt g (.slice (some ⟨b,o,none⟩) ts.length cap) w1 (k+1) v out):=Lib.hid (by subst hw1; exact HS1.out)
 have HM2:Hid (Blk w1 w.heap.size 192 #[.int .i64 x,.int .i64 y,.int .i64 z]):=Lib.hid (by subst hw1; exact HM.out)
 have HK2:Hid (Kept g v w w1 v):=Lib.hid (by subst hw1; exact HK.out)
 clear hw1 HS1 HM HK
 have hm:=HM2.out.lt
 generalize w.heap.size=m at *
 have hg1:g < w1.heap.size:=HS2.out.lt
 obtain ⟨⟨_,_,d2⟩,_,_,e2⟩:=HS2.out.blk.facts3
 obtain ⟨⟨a0,a1,a2⟩,_⟩:=HM2.out.facts3
 have hfz:=(HS2.out.blk.alloc (.cells #[.int .i64 x,.int .i64 y,.int .i64 0] 192)).frozen 2
 go_region_law
  ((refine step_append_lies _ (by rfl) _ _ _ (by rfl) (g+1) 192 i0 _ 3 24 Tryz.underlying136 HI.out HZ0.out HZ1.out HZ2.out rfl (by omega) v out.length (tksCells out) (by rfl) ((HS2.out.own.alloc _).drew)
     ⟨w1.heap.size,0,none⟩ 1 1 (tkCells (x,y,0)) (by rfl) (by rfl) (World.news_of_block (cs:=#[.int .i64 x,.int .i64 y,.int .i64 0]) (t:=192) (fr:=(0,0)) (heap_alloc_new w1 _)) (tk_one _)
     (by omega) (by unfold maxLen; omega) (by omega) (by simp; omega) (w1.heap.size+1) (by simp) ?_; intro gg cap1 w2 hown1 hgrow hat hlt; obtain ⟨⟨_,_,p2⟩,_,_,q2⟩:=((HS2.out.blk.alloc _).drew.grown hgrow (Ne.symm hvg)).facts3))
 all_goals
  have HA:=Lib.hid (((HS2.out.kept ((Below.refl _ _).alloc (Nat.le_refl _) _)).drewN 1).put hgrow hown1)
  have HB:=Lib.hid ((((HK2.out.alloc _).drewN 1).grown hgrow (v2:=.slice (some ⟨gg,0,none⟩) (out.length+1) cap1) (by rcases hat with h | h; exact .inl h.symm; right; rw [h]; simp [Value.ownBlock])).set 2 (.slice (some ⟨gg,0,none⟩) (out.length+1) cap1))
  go_wp2_with fail
  go_end0
  exact ⟨rfl,_,HB.out,HA.out⟩
theorem operand_any (ts:List Tk) (g k:Nat) (vin v:Value) (out:List Tk) (w:World) (hk:k < ts.length) (hl:ts.length≤1000) (ho:out.length≤k) (hT:ToksU g w vin ts) (hS:RSt g vin w k v out) :
 Calls Tryz.prog 270 #[.pointer (some ⟨g,0,none⟩)] w fun e w'=>e=.returned (.tuple #[])∧∃ v',Kept g v w w' v'∧RSt g vin w' (k+1) v' (out ++ [(knd ts k,num ts k,0)]):=by
 obtain ⟨A,cap,rfl,hc,hi⟩:=hT
 obtain ⟨b,o,rfl,hb,c0,c1,c2⟩:=hi k ts[k] (List.getElem?_eq_getElem hk)
 rw [knd_at (List.getElem?_eq_getElem hk),num_at (List.getElem?_eq_getElem hk)]
 exact operand_here ts g k b o cap v _ _ _ out w hS hk hl ho hb c0 c1 c2

theorem IntsAt.kept {g b:Nat} {v v':Value} {w w':World} {xs:List Int} (h:IntsAt w b xs) (hk:Kept g v w w' v') (hb:b < w.heap.size) (hg:b ≠ g) (hv:v.ownBlock ≠ some b):IntsAt w' b xs:=fun i x hx =>
 (World.cell?_of_block (a:=⟨b,i,none⟩) (w:=w) (hk.block b hb hg hv)).trans (h i x hx)
theorem IntsAt.drewN {w:World} {b:Nat} {xs:List Int} (h:IntsAt w b xs) (n:Nat):IntsAt (w.drewN n) b xs:=h
theorem ToksU.drewN {g:Nat} {w:World} {v:Value} {ts:List Tk} (h:ToksU g w v ts) (n:Nat):ToksU g (w.drewN n) v ts:=h
def RowRel (ts:List Tk) (g:Nat) (vin:Value) (lv:Nat) (R:Res) (v:Value) (w:World) (N gk:Nat) (t:Value) (wr:World):Prop :=
 (∃ (k:Nat) (o:List Tk) (v1:Value),t=.bool true∧gk≤N∧rd ts gk (10+lv) k o=some R∧k≤ts.length∧o.length≤k∧Kept g v w wr v1∧RSt g vin wr k v1 o) ∨
 (∃ (k:Nat) (o:List Tk) (v1:Value),t=.bool false∧R=.bad k∧Kept g v w wr v1∧RSt g vin wr k v1 o)
theorem row_rel_of {ts:List Tk} {g:Nat} {vin:Value} {lv:Nat} {R R1:Res} {v v0:Value} {w w0:World} {N gk:Nat} {e:Ending} {w1:World} {k0:Nat} {o0:List Tk}
 (hK:Kept g v w w0 v0) (h:RPost g vin R1 v0 w0 e w1) (hN:gk≤N) (hf:Fits ts k0 o0 R1) (hk:o0.length≤k0) (hR:thenR (some R1) (fun k o=>rd ts gk (10+lv) k o)=some R):∃ t,e=.returned t∧RowRel ts g vin lv R v w N gk t w1:=by
 cases R1 with
 | ok k o=>obtain ⟨rfl,v1,h1,h2⟩:=h; unfold Fits at hf; exact ⟨_,rfl,.inl ⟨k,o,v1,rfl,hN,hR,by omega,by omega,hK.trans h1,h2⟩⟩
 | bad k=>obtain ⟨rfl,v1,o,h1,h2⟩:=h; injection hR with hR; exact ⟨_,rfl,.inr ⟨k,o,v1,rfl,hR.symm,hK.trans h1,h2⟩⟩
theorem op_fits {ts:List Tk} {k:Nat} {o:List Tk} {x:Tk} {R:Res} {r:Option Res} (hr:∀ R1,r=some R1→Fits ts (k+1) o R1) (h:thenR r (fun k o=>some (.ok k (o ++ [x])))=some R):Fits ts k o R:=by
 rcases thenR_some h with ⟨k',a,rfl⟩ | ⟨k',o',a,c⟩
 · have:=hr _ a; unfold Fits at this ⊢; omega
 · have:=hr _ a; injection c with c; subst c; unfold Fits at this ⊢; simp only [List.length_append,List.length_cons,List.length_nil]; omega
theorem op_then {r:Option Res} {x:Tk} {f:Nat→List Tk→Option Res} {R:Res} (h:thenR r (fun k o=>f k (o ++ [x]))=some R):∃ R2,thenR r (fun k o=>some (.ok k (o ++ [x])))=some R2∧thenR (some R2) f=some R:=by
 rcases thenR_some h with ⟨k',rfl,rfl⟩ | ⟨k',o',rfl,c⟩
 · exact ⟨_,rfl,rfl⟩
 · exact ⟨_,rfl,c⟩

set_option maxHeartbeats 2000000 in
set_option maxRecDepth 100000 in
theorem row_any (ts:List Tk) (g F n lv k b cap:Nat) (vin v:Value) (out:List Tk) (xs:List Int) (R:Res) (w:World) (h1:1≤lv) (h6:lv < 6) (h3:lv ≠ 3) (hF:∀ m,m≤n→Reads ts g vin m (lv+1) F) (hE:Enters F)
 (hxs:∀ x,hasB xs x=decide (lvl x=lv)) (hxl:xs.length≤3) (hX:IntsAt w b xs) (hb:b < w.heap.size) (hbg:b ≠ g) (hbv:v.ownBlock ≠ some b)
 (hR:rd ts (n+1) lv k out=some R) (hk:k≤ts.length) (hl:ts.length≤1000) (ho:out.length≤k) (hT:ToksU g w vin ts) (hS:RSt g vin w k v out) :
 Calls Tryz.prog 200 #[.pointer (some ⟨g,0,none⟩),.func (.func F) #[.pointer (some ⟨g,0,none⟩)] #[],.slice (some ⟨b,0,none⟩) xs.length cap] w (RPost g vin R v w):=by
 have HF:=Lib.hid hF
 have HE:=Lib.hid hE
 have HXS:=Lib.hid hxs
 have HX:=Lib.hid hX
 have HT:=Lib.hid hT
 have HS:=Lib.hid hS
 have HBV:=Lib.hid hbv
 have HBG:=Lib.hid hbg
 rw [rd_row n lv out h6 h3] at hR
 obtain ⟨R1,hR1,hR2⟩:∃ R1,rd ts n (lv+1) k out=some R1∧thenR (some R1) (fun k o=>rd ts n (10+lv) k o)=some R:=by
  rcases thenR_some hR with ⟨k',a,c⟩ | ⟨k',o',a,c⟩
  · exact ⟨_,a,by subst c; rfl⟩
  · exact ⟨_,a,c⟩
 have HR1:=Lib.hid hR1
 have HR2:=Lib.hid hR2
 have HFI:=Lib.hid (rd_fits ts n (lv+1) k out R1 hR1 hk)
 clear hF hxs hX hT hS hR hR1 hR2 hbv hbg
 unfold Enters at hE
 go_enter Tryz.func200,Tryz.ntmps200
 go_wp2_with fail
 refine (HF.out n (Nat.le_refl _) k out R1 v w HR1.out hk ho HT.out HS.out).mono ?_
 intro e w1 hp
 obtain ⟨t,rfl,hrel⟩:=row_rel_of (N:=n) (Kept.refl g v w) hp (Nat.le_refl n) HFI.out ho HR2.out
 have HREL:=Lib.hid hrel
 clear hp hrel
 go_wp2_with fail
 go_loopg [7] n (fun gk t wr=>RowRel ts g vin lv R v w n gk t wr)
 case atStart=>exact HREL.out
 case round =>
  clear HREL HFI HR1 HR2
  rcases hrel with ⟨k1,o1,v1,rfl,hgk,hr,hk1,ho1,hK,hS1⟩ | ⟨k1,o1,v1,rfl,rfl,hK,hS1⟩
  · obtain ⟨m,rfl⟩:∃ m,gk=m+1:=by
     cases gk with
     | zero=>rw [rd] at hr; cases hr
     | succ m=>exact ⟨m,rfl⟩
    have HK:=Lib.hid hK
    have HS1:=Lib.hid hS1
    have HT1:=Lib.hid (HT.out.below (HS.out.below hK))
    have HX1:=Lib.hid (HX.out.kept hK hb HBG.out HBV.out)
    clear hK hS1
    by_cases hc:lvl (knd ts k1)=lv
    · have hlt:k1 < ts.length:=lvl_lt (ts:=ts) (k:=k1) (by omega)
      have hh:hasB xs (knd ts k1)=true:=by rw [HXS.out,hc]; simp
      rw [rd_rest m lv o1 h1 hc] at hr
      obtain ⟨R2,hr2,hr3⟩:=op_then (f:=fun k o=>rd ts m (10+lv) k o) hr
      have HR2:=Lib.hid hr2
      have HR3:=Lib.hid hr3
      have HFI:=Lib.hid (op_fits (k:=k1) (o:=o1) (fun R1 h=>rd_fits ts m (lv+1) (k1+1) o1 R1 h (by omega)) hr2)
      clear hr hc hr2 hr3
      go_wp2_with fail
      refine (kind_any ts g k1 vin v1 _ o1 HT1.out HS1.out hk1 (by omega)).mono ?_
      rintro e w2 ⟨rfl,a,rfl⟩
      go_wp2_with fail
      refine (contains_any xs b cap _ _ (HX1.out.drewN a) (by omega)).mono ?_
      rintro e w2 ⟨rfl,rfl⟩
      rw [hh]
      go_wp2_with fail
      refine (kind_any ts g k1 vin v1 _ o1 (HT1.out.drewN a) (HS1.out.drewN a) hk1 (by omega)).mono ?_
      rintro e w2 ⟨rfl,c,rfl⟩
      go_wp2_with fail
      refine (operator_any ts g F m (lv+1) k1 _ vin v1 o1 R2 _ (HF.out m (by omega)) HE.out hlt hl ho1 (HT1.out.drewN (a+c)) (HS1.out.drewN (a+c)) HR2.out).mono ?_
      intro e w3 hp
      obtain ⟨t,rfl,hrel⟩:=row_rel_of (N:=n) (HK.out.drewN (a+c)) hp (show m≤n by omega) HFI.out ho1 HR3.out
      have HREL:=Lib.hid hrel
      clear hp hrel
      go_wp2_with fail
      go_roundg m
      case measure=>omega
      case rel=>exact HREL.out
    · have hh:hasB xs (knd ts k1)=false:=by rw [HXS.out]; simpa using hc
      rw [rd_done m lv o1 hc] at hr
      injection hr with hr
      subst hr
      clear hc
      go_wp2_with fail
      refine (kind_any ts g k1 vin v1 _ o1 HT1.out HS1.out hk1 (by omega)).mono ?_
      rintro e w2 ⟨rfl,a,rfl⟩
      go_wp2_with fail
      refine (contains_any xs b cap _ _ (HX1.out.drewN a) (by omega)).mono ?_
      rintro e w2 ⟨rfl,rfl⟩
      rw [hh]
      go_wp2_with fail
      go_ret
      exact ⟨rfl,_,HK.out.drewN a,HS1.out.drewN a⟩
  · have HK:=Lib.hid hK
    have HS1:=Lib.hid hS1
    clear hK hS1
    go_wp2_with fail
    go_ret
    exact ⟨rfl,_,_,HK.out,HS1.out⟩

theorem enters61:Enters 217:=enters_of Tryz.func217 (by kernel_rfl) rfl
theorem enters78:Enters 246:=enters_of Tryz.func246 (by kernel_rfl) rfl
theorem enters87:Enters 259:=enters_of Tryz.func259 (by kernel_rfl) rfl
theorem enters95:Enters 268:=enters_of Tryz.func268 (by kernel_rfl) rfl
theorem lvl_iff (x:Int):(lvl x=1 ↔ x=13)∧(lvl x=2 ↔ x=12)∧(lvl x=3 ↔ x=8 ∨ x=9 ∨ x=10 ∨ x=11)∧(lvl x=4 ↔ x=3 ∨ x=4)∧(lvl x=5 ↔ x=5 ∨ x=6 ∨ x=7):=by
 unfold lvl
 by_cases h1:x=13
 · subst h1; decide
 · by_cases h2:x=12
   · subst h2; decide
   · rw [if_neg h1,if_neg h2]
     by_cases h3:8≤x∧x≤11
     · rw [if_pos h3]; omega
     · rw [if_neg h3]
       by_cases h4:x=3 ∨ x=4
       · rw [if_pos h4]; omega
       · rw [if_neg h4]
         by_cases h5:5≤x∧x≤7
         · rw [if_pos h5]; omega
         · rw [if_neg h5]; omega
theorem has1 (x:Int):hasB [13] x=decide (lvl x=1):=by unfold hasB; rw [decide_eq_decide,(lvl_iff x).1]; simp
theorem has2 (x:Int):hasB [12] x=decide (lvl x=2):=by unfold hasB; rw [decide_eq_decide,(lvl_iff x).2.1]; simp
theorem has4 (x:Int):hasB [3,4] x=decide (lvl x=4):=by unfold hasB; rw [decide_eq_decide,(lvl_iff x).2.2.2.1]; simp
theorem has5 (x:Int):hasB [5,6,7] x=decide (lvl x=5):=by unfold hasB; rw [decide_eq_decide,(lvl_iff x).2.2.2.2]; simp
theorem ints_new (w:World) (xs:List Int) (t:TypeId):IntsAt (w.alloc (.cells (xs.map fun x=>Value.int .i64 x).toArray t)) w.heap.size xs:=fun i x hx=>by
 rw [(Blk.new w t _).cell]
 simp [hx]
theorem row_new (ts:List Tk) (g F n lv k:Nat) (vin v:Value) (out:List Tk) (xs:List Int) (R:Res) (w:World) (t:TypeId) (h1:1≤lv) (h6:lv < 6) (h3:lv ≠ 3) (hF:∀ m,m≤n→Reads ts g vin m (lv+1) F) (hE:Enters F)
 (hxs:∀ x,hasB xs x=decide (lvl x=lv)) (hxl:xs.length≤3) (hR:rd ts (n+1) lv k out=some R) (hk:k≤ts.length) (hl:ts.length≤1000) (ho:out.length≤k) (hT:ToksU g w vin ts) (hS:RSt g vin w k v out) :
 Calls Tryz.prog 200 #[.pointer (some ⟨g,0,none⟩),.func (.func F) #[.pointer (some ⟨g,0,none⟩)] #[],.slice (some ⟨w.heap.size,0,none⟩) xs.length xs.length] (w.alloc (.cells (xs.map fun x=>Value.int .i64 x).toArray t)) (RPost g vin R v w):=by
 have hb:Below w.heap.size w (w.alloc (.cells (xs.map fun x=>Value.int .i64 x).toArray t)):=(Below.refl _ _).alloc (Nat.le_refl _) _
 have hg:=hS.lt
 refine (row_any ts g F n lv k w.heap.size xs.length vin v out xs R _ h1 h6 h3 hF hE hxs hxl (ints_new w xs t) (by simp) (by omega) (fun hc=>by have:=(hS.own.lt _ hc).2; omega) hR hk hl ho (hT.below (hb.mono (Nat.le_of_lt hg))) (hS.kept hb)).mono ?_
 intro e w' hp
 cases R with
 | ok k o=>obtain ⟨he,v',hk,hs⟩:=hp; exact ⟨he,v',Kept.after hb hk,hs⟩
 | bad k=>obtain ⟨he,v',o,hk,hs⟩:=hp; exact ⟨he,v',o,Kept.after hb hk,hs⟩

theorem RPost.ret {g:Nat} {vin v:Value} {R:Res} {w w':World} {e:Ending} (h:RPost g vin R v w e w'):∃ b,e=.returned (.bool b):=by
 cases R with
 | ok k o=>exact ⟨_,h.1⟩
 | bad k=>exact ⟨_,h.1⟩
theorem ors_any (ts:List Tk) (g n:Nat) (vin:Value) (hl:ts.length≤1000) (hF:∀ m,m≤n→Reads ts g vin m 2 201):Reads ts g vin (n+1) 1 175:=by
 intro k out R v w hR hk ho hT hS
 have H:=Lib.hid (row_new ts g 201 n 1 k vin v out [13] R w 3 (by omega) (by omega) (by omega) hF enters52 has1 (by simp) hR hk hl ho hT hS)
 clear hR hT hS hF
 go_enter Tryz.func175,Tryz.ntmps175
 go_wp2_with fail
 refine H.out.mono ?_
 intro e w' hp
 obtain ⟨b,rfl⟩:=hp.ret
 have HP:=Lib.hid hp
 clear hp
 go_wp2_with fail
 go_ret
 exact HP.out
theorem ands_any (ts:List Tk) (g n:Nat) (vin:Value) (hl:ts.length≤1000) (hF:∀ m,m≤n→Reads ts g vin m 3 217):Reads ts g vin (n+1) 2 201:=by
 intro k out R v w hR hk ho hT hS
 have H:=Lib.hid (row_new ts g 217 n 2 k vin v out [12] R w 3 (by omega) (by omega) (by omega) hF enters61 has2 (by simp) hR hk hl ho hT hS)
 clear hR hT hS hF
 go_enter Tryz.func201,Tryz.ntmps201
 go_wp2_with fail
 refine H.out.mono ?_
 intro e w' hp
 obtain ⟨b,rfl⟩:=hp.ret
 have HP:=Lib.hid hp
 clear hp
 go_wp2_with fail
 go_ret
 exact HP.out
theorem sum_any (ts:List Tk) (g n:Nat) (vin:Value) (hl:ts.length≤1000) (hF:∀ m,m≤n→Reads ts g vin m 5 259):Reads ts g vin (n+1) 4 246:=by
 intro k out R v w hR hk ho hT hS
 have H:=Lib.hid (row_new ts g 259 n 4 k vin v out [3,4] R w 3 (by omega) (by omega) (by omega) hF enters87 has4 (by simp) hR hk hl ho hT hS)
 clear hR hT hS hF
 go_enter Tryz.func246,Tryz.ntmps246
 go_wp2_with fail
 refine H.out.mono ?_
 intro e w' hp
 obtain ⟨b,rfl⟩:=hp.ret
 have HP:=Lib.hid hp
 clear hp
 go_wp2_with fail
 go_ret
 exact HP.out
theorem product_any (ts:List Tk) (g n:Nat) (vin:Value) (hl:ts.length≤1000) (hF:∀ m,m≤n→Reads ts g vin m 6 268):Reads ts g vin (n+1) 5 259:=by
 intro k out R v w hR hk ho hT hS
 have H:=Lib.hid (row_new ts g 268 n 5 k vin v out [5,6,7] R w 3 (by omega) (by omega) (by omega) hF enters95 has5 (by simp) hR hk hl ho hT hS)
 clear hR hT hS hF
 go_enter Tryz.func259,Tryz.ntmps259
 go_wp2_with fail
 refine H.out.mono ?_
 intro e w' hp
 obtain ⟨b,rfl⟩:=hp.ret
 have HP:=Lib.hid hp
 clear hp
 go_wp2_with fail
 go_ret
 exact HP.out

theorem cmp_iff (x:Int) (h:lvl x ≠ 3):(x == 8)=false∧(x == 9)=false∧(x == 10)=false∧(x == 11)=false:=by
 have:=(lvl_iff x).2.2.1
 simp only [beq_eq_false_iff_ne,ne_eq]
 omega
theorem RPost.after {g:Nat} {vin v v0:Value} {R:Res} {w w0 w':World} {e:Ending} (hK:Kept g v w w0 v0) (h:RPost g vin R v0 w0 e w'):RPost g vin R v w e w':=by
 cases R with
 | ok k o=>obtain ⟨he,v',hk,hs⟩:=h; exact ⟨he,v',hK.trans hk,hs⟩
 | bad k=>obtain ⟨he,v',o,hk,hs⟩:=h; exact ⟨he,v',o,hK.trans hk,hs⟩
set_option maxHeartbeats 1000000 in
theorem comparison_bad (ts:List Tk) (g k':Nat) (vin v:Value) (w:World) (hc:Calls Tryz.prog 246 #[.pointer (some ⟨g,0,none⟩)] w (RPost g vin (.bad k') v w)) :
 Calls Tryz.prog 228 #[.pointer (some ⟨g,0,none⟩)] w (RPost g vin (.bad k') v w):=by
 have H:=Lib.hid hc
 clear hc
 go_enter Tryz.func228,Tryz.ntmps228
 go_wp2_with fail
 refine H.out.mono ?_
 rintro e w1 ⟨rfl,v1,o1,hk,hs⟩
 have HK:=Lib.hid hk
 have HS:=Lib.hid hs
 clear hk hs
 go_wp2_with fail
 go_ret
 exact ⟨rfl,_,_,HK.out,HS.out⟩
set_option maxHeartbeats 1000000 in
theorem comparison_one (ts:List Tk) (g k':Nat) (vin v:Value) (o':List Tk) (w:World) (hl:ts.length≤1000) (hk':k'≤ts.length) (hg:g≤w.heap.size) (hT:∀ w',Below g w w'→ToksU g w' vin ts) (hB:∀ w' v',Kept g v w w' v'→Below g w w') (hc:Calls Tryz.prog 246 #[.pointer (some ⟨g,0,none⟩)] w (RPost g vin (.ok k' o') v w)) (h3:lvl (knd ts k') ≠ 3) :
 Calls Tryz.prog 228 #[.pointer (some ⟨g,0,none⟩)] w (RPost g vin (.ok k' o') v w):=by
 have H:=Lib.hid hc
 have HT:=Lib.hid hT
 have HB:=Lib.hid hB
 obtain ⟨n8,n9,n10,n11⟩:=cmp_iff _ h3
 clear hc hT hB h3
 go_enter Tryz.func228,Tryz.ntmps228
 go_wp2_with fail
 refine H.out.mono ?_
 rintro e w1 ⟨rfl,v1,hk,hs⟩
 have HK:=Lib.hid hk
 have HS:=Lib.hid hs
 clear hk hs
 go_wp2_with fail
 refine (kind_any ts g k' vin v1 _ o' (HT.out _ (HB.out _ _ HK.out)) HS.out hk' (by omega)).mono ?_
 rintro e w2 ⟨rfl,a,rfl⟩
 generalize knd ts k'=x at *
 go_wp2_with fail
 go_ret
 exact ⟨rfl,_,HK.out.drewN a,HS.out.drewN a⟩
set_option maxHeartbeats 1000000 in
theorem comparison_two (ts:List Tk) (g n k':Nat) (vin v:Value) (o':List Tk) (R:Res) (x:Int) (w:World) (hl:ts.length≤1000) (hk':k' < ts.length) (ho':o'.length≤k') (hg:g≤w.heap.size) (hT:∀ w',Below g w w'→ToksU g w' vin ts) (hB:∀ w' v',Kept g v w w' v'→Below g w w') (hc:Calls Tryz.prog 246 #[.pointer (some ⟨g,0,none⟩)] w (RPost g vin (.ok k' o') v w))
 (hF:Reads ts g vin n 4 246) (hx:knd ts k'=x) (h3:x=8 ∨ x=9 ∨ x=10 ∨ x=11) (hR:thenR (rd ts n 4 (k'+1) o') (fun k o=>some (.ok k (o ++ [(x,0,0)])))=some R) :
 Calls Tryz.prog 228 #[.pointer (some ⟨g,0,none⟩)] w (RPost g vin R v w):=by
 have H:=Lib.hid hc
 have HT:=Lib.hid hT
 have HB:=Lib.hid hB
 have HX:=Lib.hid hx
 have HF:=Lib.hid hF
 have HR:=Lib.hid hR
 clear hc hT hB hx hF hR
 rcases h3 with rfl | rfl | rfl | rfl
 all_goals
  go_enter Tryz.func228,Tryz.ntmps228
  go_wp2_with fail
  refine H.out.mono ?_
  rintro e w1 ⟨rfl,v1,hk,hs⟩
  have HK:=Lib.hid hk
  have HS:=Lib.hid hs
  clear hk hs
  go_wp2_with fail
  refine (kind_any ts g k' vin v1 _ o' (HT.out _ (HB.out _ _ HK.out)) HS.out (by omega) (by omega)).mono ?_
  rintro e w2 ⟨rfl,a,rfl⟩
  rw [HX.out]
  go_wp2_with fail
  refine (operator_any ts g 246 n 4 k' _ vin v1 o' R _ HF.out enters78 hk' hl ho' ((HT.out _ (HB.out _ _ HK.out)).drewN a) (HS.out.drewN a) HR.out).mono ?_
  intro e w3 hp
  obtain ⟨b,rfl⟩:=hp.ret
  have HP:=Lib.hid (hp.after (HK.out.drewN a))
  clear hp
  go_wp2_with fail
  go_ret
  exact HP.out
theorem comparison_any (ts:List Tk) (g n k:Nat) (vin v:Value) (out:List Tk) (R:Res) (w:World) (hl:ts.length≤1000) (hF:Reads ts g vin n 4 246) (hk:k≤ts.length) (ho:out.length≤k) (hT:ToksU g w vin ts) (hS:RSt g vin w k v out)
 (hR:thenR (rd ts n 4 k out) (fun k' o=>if lvl (knd ts k')=3 then thenR (rd ts n 4 (k'+1) o) fun k'' o'=>some (.ok k'' (o' ++ [(knd ts k',0,0)])) else some (.ok k' o))=some R) :
 Calls Tryz.prog 228 #[.pointer (some ⟨g,0,none⟩)] w (RPost g vin R v w):=by
 have hT':∀ w',Below g w w'→ToksU g w' vin ts:=fun w' h=>hT.below h
 have hB':∀ w' v',Kept g v w w' v'→Below g w w':=fun w' v' h=>hS.below h
 rcases thenR_some hR with ⟨k',h1,rfl⟩ | ⟨k',o',h1,h2⟩
 · exact comparison_bad ts g k' vin v w (hF k out _ v w h1 hk ho hT hS)
 · have hf:=rd_fits ts n 4 k out _ h1 hk
   unfold Fits at hf
   by_cases h3:lvl (knd ts k')=3
   · rw [if_pos h3] at h2
     exact comparison_two ts g n k' vin v o' R _ w hl (lvl_lt (by omega)) (by omega) (Nat.le_of_lt hS.lt) hT' hB' (hF k out _ v w h1 hk ho hT hS) hF rfl ((lvl_iff _).2.2.1.1 h3) h2
   · rw [if_neg h3] at h2
     injection h2 with h2
     subst h2
     exact comparison_one ts g k' vin v o' w hl (by omega) (Nat.le_of_lt hS.lt) hT' hB' (hF k out _ v w h1 hk ho hT hS) h3
set_option maxHeartbeats 1000000 in
theorem not_any (ts:List Tk) (g n:Nat) (vin:Value) (hl:ts.length≤1000) (hF:Reads ts g vin n 3 217) (hF4:Reads ts g vin n 4 246):Reads ts g vin (n+1) 3 217:=by
 intro k out R v w hR hk ho hT hS
 have HF:=Lib.hid hF
 have HF4:=Lib.hid hF4
 have HT:=Lib.hid hT
 have HS:=Lib.hid hS
 by_cases hc:knd ts k=14
 · rw [rd3_not n out hc] at hR
   have hlt:k < ts.length:=knd_lt (by omega)
   have HR:=Lib.hid hR
   have HC:=Lib.hid hc
   clear hR hT hS hF hF4 hc
   go_enter Tryz.func217,Tryz.ntmps217
   go_wp2_with fail
   refine (kind_any ts g k vin v _ out HT.out HS.out hk (by omega)).mono ?_
   rintro e w1 ⟨rfl,a,rfl⟩
   rw [HC.out]
   go_wp2_with fail
   refine (operator_any ts g 217 n 3 k _ vin v out R _ HF.out enters61 hlt hl ho (HT.out.drewN a) (HS.out.drewN a) HR.out).mono ?_
   intro e w3 hp
   obtain ⟨b,rfl⟩:=hp.ret
   have HP:=Lib.hid (hp.after ((Kept.refl g v w).drewN a))
   clear hp
   go_wp2_with fail
   go_ret
   exact HP.out
 · rw [rd3_cmp n out hc] at hR
   have HR:=Lib.hid hR
   have hc':(knd ts k == 14)=false:=by simpa using hc
   clear hR hT hS hF hF4 hc
   go_enter Tryz.func217,Tryz.ntmps217
   go_wp2_with fail
   refine (kind_any ts g k vin v _ out HT.out HS.out hk (by omega)).mono ?_
   rintro e w1 ⟨rfl,a,rfl⟩
   go_wp2_with fail
   refine (comparison_any ts g n k vin v out R _ hl HF4.out hk ho (HT.out.drewN a) (HS.out.drewN a) HR.out).mono ?_
   intro e w3 hp
   obtain ⟨b,rfl⟩:=hp.ret
   have HP:=Lib.hid (hp.after ((Kept.refl g v w).drewN a))
   clear hp
   go_wp2_with fail
   go_ret
   exact HP.out
end Go.Proofs.YtmhkpjcdkjnlnaaGreatDoor
