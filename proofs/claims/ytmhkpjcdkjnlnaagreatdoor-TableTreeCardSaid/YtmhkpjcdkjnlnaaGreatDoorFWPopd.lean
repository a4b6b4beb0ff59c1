/- The contracts of parse's reader's operator (a token is passed by, one more is read, and a token is put behind it) and operand. -/
import Derived.Test.YtmhkpjcdkjnlnaaGreatDoorFWPkind
import Derived.RegionTactic
import Derived.BigRegion
import Derived.StillTactics
import Derived.Laws.Pointers
import Derived.Deep.RegionHeld3
import Derived.Deep.RegionLaw
import Derived.Deep.AppendLies
namespace Go.Proofs.YtmhkpjcdkjnlnaaGreatDoor
open Go.ChangeShapes Go.WideShapes Go.ChangeAt Go.RowKit
set_option linter.unusedVariables false

def opR (kd:Int):Res→Res
 | .ok k o=>.ok k (o ++ [(kd,0,0)])
 | .bad k=>.bad k
theorem thenR_op {r:Option Res} {kd:Int} {R:Res} (h:thenR r (fun k o=>some (.ok k (o ++ [(kd,0,0)])))=some R):∃ R1,r=some R1∧R=opR kd R1:=by
 rcases thenR_some h with ⟨k,h1,rfl⟩ | ⟨k,o,h1,h2⟩
 · exact ⟨_,h1,rfl⟩
 · injection h2 with h2; exact ⟨_,h1,h2.symm⟩
theorem slice_of_own {w:World} {B:Nat} {e:TypeId} {s n:Nat} {v:Value} {xs:List Value} (h:w.ownsRow B e s v (n+1) xs):∃ g cap,v=.slice (some ⟨g,0,none⟩) (n+1) cap:=by
 rcases h.2 with ⟨_,h⟩ | ⟨a,b,_,h,_⟩
 · omega
 · exact ⟨a,b,h⟩
theorem Blk.grown {w w':World} {g:Nat} {t:TypeId} {cs:Array Value} {row:Option Nat} (h:Blk w g t cs) (hg:w.grownBy w' row) (hr:some g ≠ row):Blk w' g t cs:=(hg.block g h.lt hr).trans h
theorem RSt.put {g k:Nat} {vin v v':Value} {w w':World} {o:List Tk} {t:Tk} (h:RSt g vin w k v o) (hg:w.grownBy w' v.ownBlock) (ho:w'.ownsRow (g+1) 192 3 v' (o.length+1) (tksCells o ++ tkCells t)):RSt g vin (w'.setCell ⟨g,2,none⟩ v') k v' (o ++ [t]):=by
 have hne:some g ≠ v.ownBlock:=fun hc=>by have:=(h.own.lt g hc.symm).1; omega
 exact ⟨(h.blk.grown hg hne).set_ 2 v',own_set (own_snoc ho) 2 v' (Nat.lt_succ_self g)⟩

def Enters (F:Nat):Prop:=∀ (args:Array Value) (w:World),Sem.run Tryz.prog (callFunc F args) w=.ok (.enter F args) w
theorem enters_of {F : Nat} {fn : Func} {c : Code} (hf : Tryz.prog.funcs[F]? = some fn) (hn : (fn.name == "runtime.NumGoroutine") = false) (hb : fn.body = some c) : Enters F := fun args w => by
 simp only [beq_eq_false_iff_ne,ne_eq] at hn
 simp [callFunc,go_sem,hf,hn,hb]
theorem enters52:Enters 201:=enters_of Tryz.func201 (by kernel_rfl) rfl
set_option maxHeartbeats 1000000 in
set_option maxRecDepth 100000 in
theorem operator_ok (ts:List Tk) (g F k k':Nat) (kd:Int) (vin v:Value) (out o':List Tk) (w:World) (hk:k+1≤1000000) (hS:RSt g vin w k v out) (ho:o'.length≤1000000) (hE:Enters F)
 (HF:∀ w0,w0=w.setCell ⟨g,1,none⟩ (.int .i64 (k+1:Nat))→Calls Tryz.prog F #[.pointer (some ⟨g,0,none⟩)] w0 (RPost g vin (.ok k' o') v w0)) :
 Calls Tryz.prog 216 #[.pointer (some ⟨g,0,none⟩),.func (.func F) #[.pointer (some ⟨g,0,none⟩)] #[],.int .i64 kd] w (RPost g vin (.ok k' (o' ++ [(kd,0,0)])) v w):=by
 obtain ⟨i0,hi,hz0,hz1,hz2⟩:=info_parts Tryz.info40
 have HI:=Lib.hid hi
 have HZ0:=Lib.hid hz0
 have HZ1:=Lib.hid hz1
 have HZ2:=Lib.hid hz2
 have HH:=Lib.hid HF
 have HS:=Lib.hid hS
 obtain ⟨⟨c0,c1,c2⟩,f0,f1,f2⟩:=hS.blk.facts3
 clear hi hz0 hz1 hz2 HF hS
 unfold Enters at hE
 go_enter Tryz.func216,Tryz.ntmps216
 go_wp2_with fail
 refine (HH.out _ (by go_num)).mono ?_
 rintro e w1 ⟨rfl,v1,hk1,hS1⟩
 have HK:=Lib.hid (((Kept.refl g v w).set 1 _).trans hk1)
 have HS1:=Lib.hid hS1
 have hg:=hS1.lt
 obtain ⟨⟨d0,d1,d2⟩,e0,e1,e2⟩:=hS1.blk.facts3
 clear c0 c1 c2 f0 f1 f2 hk1 hS1
 go_wp2_with (at_builtin; refine wpList_append_own_at _ rfl _ _ 136 rfl (g+1) 192 i0 (.agg #[.int .i64 0,.int .i64 0,.int .i64 0]) 3 24 Tryz.underlying136 HI.out HZ0.out HZ1.out HZ2.out rfl (by decide) _ _ _ rfl (HS1.out.own.alloc _) ⟨w1.heap.size,0,none⟩ 1 1 (tkCells (kd,0,0)) rfl rfl ?c1 ?c2 ?c3 ?c4 ?c5 ?_)
 case c1=>exact new_cells _ _ (kd,0,0) _ rfl
 case c2=>exact tk_one _
 case c3=>unfold maxLen; omega
 case c4=>omega
 case c5=>simp; omega
 intro v2 w2 hown hgrow _ hrow
 obtain ⟨g2,cap2,rfl⟩:=slice_of_own hown
 have HA:=Lib.hid ((HS1.out.kept ((Below.refl _ _).alloc (Nat.le_refl _) _)).put hgrow hown)
 have HB:=Lib.hid (((HK.out.alloc _).grown hgrow (by simpa using hrow)).set 2 (.slice (some ⟨g2,0,none⟩) (o'.length+1) cap2))
 have hne:some g ≠ v1.ownBlock:=fun hc=>by have:=(HS1.out.own.lt g hc.symm).1; omega
 obtain ⟨⟨d0,d1,d2⟩,e0,e1,e2⟩:=((HS1.out.blk.alloc _).grown hgrow hne).facts3
 clear hown hgrow hrow hne
 go_wp2
 go_ret
 exact ⟨rfl,_,HB.out,HA.out⟩
set_option maxHeartbeats 1000000 in
set_option maxRecDepth 100000 in
theorem operator_bad (ts:List Tk) (g F k k':Nat) (kd:Int) (vin v:Value) (out:List Tk) (w:World) (hk:k+1≤1000000) (hS:RSt g vin w k v out) (hE:Enters F)
 (HF:∀ w0,w0=w.setCell ⟨g,1,none⟩ (.int .i64 (k+1:Nat))→Calls Tryz.prog F #[.pointer (some ⟨g,0,none⟩)] w0 (RPost g vin (.bad k') v w0)) :
 Calls Tryz.prog 216 #[.pointer (some ⟨g,0,none⟩),.func (.func F) #[.pointer (some ⟨g,0,none⟩)] #[],.int .i64 kd] w (RPost g vin (.bad k') v w):=by
 have HH:=Lib.hid HF
 have HS:=Lib.hid hS
 obtain ⟨⟨c0,c1,c2⟩,f0,f1,f2⟩:=hS.blk.facts3
 clear HF hS
 unfold Enters at hE
 go_enter Tryz.func216,Tryz.ntmps216
 go_wp2_with fail
 refine (HH.out _ (by go_num)).mono ?_
 rintro e w1 ⟨rfl,v1,o1,hk1,hS1⟩
 have HK:=Lib.hid (((Kept.refl g v w).set 1 _).trans hk1)
 have HS1:=Lib.hid hS1
 clear c0 c1 c2 f0 f1 f2 hk1 hS1
 go_wp2
 go_ret
 exact ⟨rfl,_,_,HK.out,HS1.out⟩
theorem operator_any (ts:List Tk) (g F n lv k:Nat) (kd:Int) (vin v:Value) (out:List Tk) (R:Res) (w:World) (hF:Reads ts g vin n lv F) (hE:Enters F) (hk:k+1≤ts.length) (hl:ts.length≤1000) (ho:out.length≤k)
 (hT:ToksU g w vin ts) (hS:RSt g vin w k v out) (hR:thenR (rd ts n lv (k+1) out) (fun k o=>some (.ok k (o ++ [(kd,0,0)])))=some R) :
 Calls Tryz.prog 216 #[.pointer (some ⟨g,0,none⟩),.func (.func F) #[.pointer (some ⟨g,0,none⟩)] #[],.int .i64 kd] w (RPost g vin R v w):=by
 obtain ⟨R1,h1,rfl⟩:=thenR_op hR
 have hb:Below g w (w.setCell ⟨g,1,none⟩ (.int .i64 (k+1:Nat))):=(Below.refl _ _).setCell (by simp) _
 have h:=hF (k+1) out R1 v _ h1 hk (by omega) (hT.below hb) (hS.at_ (k+1))
 have hf:=rd_fits ts n lv (k+1) out R1 h1 hk
 cases R1 with
 | ok k' o'=>exact operator_ok ts g F k k' kd vin v out o' w (by omega) hS (by unfold Fits at hf; omega) hE (fun w0 h0=>h0 ▸ h)
 | bad k'=>exact operator_bad ts g F k k' kd vin v out w (by omega) hS hE (fun w0 h0=>h0 ▸ h)

theorem Blk.drew {w:World} {g:Nat} {t:TypeId} {cs:Array Value} (h:Blk w g t cs):Blk w.drew g t cs:=h
set_option maxHeartbeats 2000000 in
set_option maxRecDepth 100000 in
theorem operand_here (ts:List Tk) (g k b o cap:Nat) (v:Value) (x y z:Int) (out:List Tk) (w:World) (hS:RSt g (.slice (some ⟨b,o,none⟩) ts.length cap) w k v out) (hk:k < ts.length) (hl:ts.length≤1000) (ho:out.length≤k) (hb:b < g)
 (h0:w.cell? ⟨b,o+k * 3,none⟩=some (.int .i64 x)) (h1:w.cell? ⟨b,o+k * 3+1,none⟩=some (.int .i64 y)) (h2:w.cell? ⟨b,o+k * 3+2,none⟩=some (.int .i64 z)) :
 Calls Tryz.prog 270 #[.pointer (some ⟨g,0,none⟩)] w fun e w'=>e=.returned (.tuple #[])∧∃ v',Kept g v w w' v'∧RSt g (.slice (some ⟨b,o,none⟩) ts.length cap) w' (k+1) v' (out ++ [(x,y,0)]):=by
 obtain ⟨i0,hi,hz0,hz1,hz2⟩:=info_parts Tryz.info40
 have HI:=Lib.hid hi
 have HZ0:=Lib.hid hz0
 have HZ1:=Lib.hid hz1
 have HZ2:=Lib.hid hz2
 have HS:=Lib.hid hS
 obtain ⟨⟨c0,c1,c2⟩,f0,f1,f2⟩:=hS.blk.facts3
 have hg:=hS.lt
 have hbw:b < w.heap.size:=by omega
 have hk0:(0:Int)≤(k:Int):=Int.natCast_nonneg _
 have hk1:(k:Int) < (ts.length:Int):=by omega
 clear hi hz0 hz1 hz2 hS
 go_enter Tryz.func270,Tryz.ntmps270
 go_wp2_with fail
 go_region
 all_goals go_wp2_with fail
 clear c0 c1 c2 f0 f1 f2 h0 h1 h2
 have hv:v.ownBlock ≠ some w.heap.size:=fun hc=>by have:=(HS.out.own.lt _ hc).2; omega
 have hvg:v.ownBlock ≠ some g:=fun hc=>by have:=(HS.out.own.lt _ hc).1; omega
 have hs1:(w.setCell ⟨g,1,none⟩ (.int .i64 ((k:Int)+1))).heap.size=w.heap.size:=by simp
 have HS1:=Lib.hid (((HS.out.at_ (k+1)).kept ((Below.refl _ _).alloc (Nat.le_refl _) (.cells #[.int .i64 x,.int .i64 y,.int .i64 z] 192))).drewN 1)
 have HM:=Lib.hid ((Blk.new_at (w.setCell ⟨g,1,none⟩ (.int .i64 ((k:Int)+1))) 192 #[.int .i64 x,.int .i64 y,.int .i64 z] w.heap.size hs1).drewN 1)
 have HK:=Lib.hid ((((Kept.refl g v w).set 1 (.int .i64 ((k:Int)+1))).alloc (.cells #[.int .i64 x,.int .i64 y,.int .i64 z] 192)).drewN 1)
 clear hs1
 generalize hw1:((w.setCell ⟨g,1,none⟩ (.int .i64 ((k:Int)+1))).alloc (.cells #[.int .i64 x,.int .i64 y,.int .i64 z] 192)).drew=w1
 have HS2:Hid (RSt g (.slice (some ⟨b,o,none⟩) ts.length cap) w1 (k+1) v out):=Lib.hid (by subst hw1; exact HS1.out)
 have HM2:Hid (Blk w1 w.heap.size 192 #[.int .i64 x,.int .i64 y,.int .i64 z]):=Lib.hid (by subst hw1; exact HM.out)
 have HK2:Hid (Kept g v w w1 v):=Lib.hid (by subst hw1; exact HK.out)
 clear hw1 HS1 HM HK
 have hm:=HM2.out.lt
 generalize w.heap.size=m at *
 have hg1:g < w1.heap.size:=HS2.out.lt
 obtain ⟨⟨_,_,d2⟩,_,_,e2⟩:=HS2.out.blk.facts3
 obtain ⟨⟨a0,a1,a2⟩,_⟩:=HM2.out.facts3
 have hfz:=(HS2.out.blk.alloc (.cells #[.int .i64 x,.int .i64 y,.int .i64 0] 192)).frozen 2
 go_region_law
  ((refine step_append_lies _ (by rfl) _ _ _ (by rfl) (g+1) 192 i0 _ 3 24 Tryz.underlying136 HI.out HZ0.out HZ1.out HZ2.out rfl (by omega) v out.length (tksCells out) (by rfl) ((HS2.out.own.alloc _).drew)
     ⟨w1.heap.size,0,none⟩ 1 1 (tkCells (x,y,0)) (by rfl) (by rfl) (World.news_of_block (cs:=#[.int .i64 x,.int .i64 y,.int .i64 0]) (t:=192) (fr:=(0,0)) (heap_alloc_new w1 _)) (tk_one _)
     (by omega) (by unfold maxLen; omega) (by omega) (by simp; omega) (w1.heap.size+1) (by simp) ?_; intro gg cap1 w2 hown1 hgrow hat hlt; obtain ⟨⟨_,_,p2⟩,_,_,q2⟩:=((HS2.out.blk.alloc _).drew.grown hgrow (Ne.symm hvg)).facts3))
 all_goals
  have HA:=Lib.hid (((HS2.out.kept ((Below.refl _ _).alloc (Nat.le_refl _) _)).drewN 1).put hgrow hown1)
  have HB:=Lib.hid ((((HK2.out.alloc _).drewN 1).grown hgrow (v2:=.slice (some ⟨gg,0,none⟩) (out.length+1) cap1) (by rcases hat with h | h; exact .inl h.symm; right; rw [h]; simp [Value.ownBlock])).set 2 (.slice (some ⟨gg,0,none⟩) (out.length+1) cap1))
  go_wp2_with fail
  go_end0
  exact ⟨rfl,_,HB.out,HA.out⟩
theorem operand_any (ts:List Tk) (g k:Nat) (vin v:Value) (out:List Tk) (w:World) (hk:k < ts.length) (hl:ts.length≤1000) (ho:out.length≤k) (hT:ToksU g w vin ts) (hS:RSt g vin w k v out) :
 Calls Tryz.prog 270 #[.pointer (some ⟨g,0,none⟩)] w fun e w'=>e=.returned (.tuple #[])∧∃ v',Kept g v w w' v'∧RSt g vin w' (k+1) v' (out ++ [(knd ts k,num ts k,0)]):=by
 obtain ⟨A,cap,rfl,hc,hi⟩:=hT
 obtain ⟨b,o,rfl,hb,c0,c1,c2⟩:=hi k ts[k] (List.getElem?_eq_getElem hk)
 rw [knd_at (List.getElem?_eq_getElem hk),num_at (List.getElem?_eq_getElem hk)]
 exact operand_here ts g k b o cap v _ _ _ out w hS hk hl ho hb c0 c1 c2
end Go.Proofs.YtmhkpjcdkjnlnaaGreatDoor
