/- The contract of act's doWith. -/
import Derived.Test.YtmhkpjcdkjnlnaaGreatDoorFUPkind
import Derived.Test.YtmhkpjcdkjnlnaaGreatDoorFUAas
import Derived.Test.YtmhkpjcdkjnlnaaGreatDoorFUCact
namespace Go.Proofs.YtmhkpjcdkjnlnaaGreatDoor
open Go.ChangeShapes Go.WideShapes Go.ChangeAt Go.RowKit
set_option linter.unusedVariables false

theorem ou_one (o:Ou):∀ u ∈ ouCells o,u.oneCell'=true:=by
 intro u hu
 simp only [ouCells,List.mem_cons,List.mem_nil_iff,or_false] at hu
 rcases hu with rfl | rfl | rfl | rfl <;> rfl
theorem num_one (x:Int):∀ u ∈ [Value.int .i64 x],u.oneCell'=true:=by
 intro u hu
 rw [List.mem_singleton.1 hu]
 rfl
theorem new_ou (W:World) (o:Ou) (p:Nat) (hp:W.heap.size=p):∀ j u,(ouCells o)[j]?=some u→(W.alloc (.cells #[.int .i64 o.kind,.int .i64 o.ev,.int .i64 o.dl,.int .i64 o.to] 77)).cell? ((⟨p,0,none⟩:Addr).add j)=some u:=by
 subst hp
 exact World.news_of_block (cs:=#[.int .i64 o.kind,.int .i64 o.ev,.int .i64 o.dl,.int .i64 o.to]) (t:=77) (fr:=(0,0)) (heap_alloc_new W _)
theorem new_in (W:World) (x:Int) (p:Nat) (hp:W.heap.size=p):∀ j u,[Value.int .i64 x][j]?=some u→(W.alloc (.cells #[.int .i64 x] 3)).cell? ((⟨p,0,none⟩:Addr).add j)=some u:=by
 subst hp
 exact World.news_of_block (cs:=#[.int .i64 x]) (t:=3) (fr:=(0,0)) (heap_alloc_new W _)
theorem blk_grown {w w':World} {B g:Nat} {e t:TypeId} {s n:Nat} {v:Value} {xs:List Value} {cs:Array Value} (h:Blk w g t cs) (ho:w.ownsRow B e s v n xs) (het:e ≠ t) (hg:w.grownBy w' v.ownBlock):Blk w' g t cs :=
 h.grown hg (Ne.symm (own_else ho h het))
theorem grown_below {B g:Nat} {w w1 w2:World} {v:Value} {e:TypeId} {s n:Nat} {xs:List Value} (h:Below B w w1) (ho:w1.ownsRow B e s v n xs) (hB:B≤w1.heap.size) (hg:w1.grownBy w2 v.ownBlock):Below B w w2 :=
 h.grown hg hB (fun k hk=>(ho.lt k hk).1)
set_option maxHeartbeats 4000000 in
set_option maxRecDepth 100000 in
theorem doWith_assign (B g:Nat) (ve vo vi:Value) (X:Ds) (a:Ac) (n:Int) (w:World) (hD:DsAt B g w ve vo vi X) (hel:X.env.length≤1000) (hk:a.kind=1) :
 Calls Tryz.prog 206 #[.pointer (some ⟨g,0,none⟩),acVal a,.int .i64 n] w (DidPost B g (doK a n X).isSome ((doK a n X).getD X) w):=by
 have HB0:=Lib.hid ((Below.refl B w).alloc hD.lt (acBox a))
 have HA:=Lib.hid (assign_any B g ve vo vi X a n _ (hD.below (below_box w (acBox a))) hel hk)
 generalize (doK a n X).isSome=r at *
 generalize (doK a n X).getD X=Y at *
 obtain ⟨kd,an,am,ex⟩:=a
 simp only at hk
 subst hk
 clear hD
 go_enter Tryz.func206,Tryz.ntmps206
 go_wp2_with fail
 refine HA.out.mono ?_
 rintro e w1 ⟨rfl,hb1,ve1,vo1,vi1,hd1⟩
 have HB1:=Lib.hid (HB0.out.trans hb1)
 have HD1:=Lib.hid hd1
 clear hb1 hd1
 go_wp2_with fail
 go_ret
 exact .of rfl rfl HB1.out HD1.out
set_option maxHeartbeats 4000000 in
set_option maxRecDepth 100000 in
theorem doWith_send (B g:Nat) (ve vo vi:Value) (X:Ds) (an am:Int) (ex:ByteArray) (n:Int) (w:World) (hD:DsAt B g w ve vo vi X) (hol:X.out.length≤1000) :
 Calls Tryz.prog 206 #[.pointer (some ⟨g,0,none⟩),acVal ⟨3,an,am,ex⟩,.int .i64 n] w (DidPost B g true ⟨X.env,X.out ++ [⟨3,an,am,n⟩],X.ins⟩ w):=by
 obtain ⟨i0,hi,hz0,hz1,hz2⟩:=info_parts Tryz.infoOut
 have HI:=Lib.hid hi
 have HZ0:=Lib.hid hz0
 have HZ1:=Lib.hid hz1
 have HZ2:=Lib.hid hz2
 have HD1:=hD.below (below_box w (acBox ⟨3,an,am,ex⟩))
 have HBA1:=Blk.new w 104 #[.int .i64 3,.int .i64 an,.int .i64 am,.string ex]
 have HB0:=(Below.refl B w).alloc hD.lt (acBox ⟨3,an,am,ex⟩)
 obtain ⟨⟨c0,c1,c2⟩,f0,f1,f2⟩:=HD1.blk.facts3
 obtain ⟨⟨q0,q1,q2,q3⟩,_⟩:=HBA1.four
 have HD2:=Lib.hid ((HD1.below (below_box _ (.cells #[.int .i64 3,.int .i64 an,.int .i64 am,.int .i64 n] 77))).drew)
 have HBA2:=Lib.hid ((HBA1.alloc (.cells #[.int .i64 3,.int .i64 an,.int .i64 am,.int .i64 n] 77)).drew)
 have HB2:=Lib.hid ((HB0.alloc HD1.lt (.cells #[.int .i64 3,.int .i64 an,.int .i64 am,.int .i64 n] 77)).drew)
 have HO2:=Lib.hid HD2.out.out
 have HS2:=Lib.hid HD2.out.lt
 have HC2:=Lib.hid (And.intro HD2.out.blk.facts3.1.2.1 HBA2.out.four.1)
 have HN2:=Lib.hid (new_ou (w.alloc (acBox ⟨3,an,am,ex⟩)) ⟨3,an,am,n⟩ (w.heap.size+1) (by simp))
 clear hi hz0 hz1 hz2 hD HD1 HBA1 HB0
 go_enter Tryz.func206,Tryz.ntmps206
 go_wp2_with fail
 refine anyD_start (fun W=>W.cell? ⟨g,1,none⟩=some vo∧W.cell? ⟨w.heap.size,1,none⟩=some (.int .i64 an)∧W.cell? ⟨w.heap.size,2,none⟩=some (.int .i64 am)) (fun i=>[15].contains i) (by kernel_rfl) ?_
 refine anyD_t 0 (.pointer (some ⟨g,0,none⟩)) ?_
 try simp only [Act.put,sx]
 refine anyD_t 1 (.pointer (some ⟨g,0,none⟩)) ?_
 try simp only [Act.put,sx]
 refine anyD_t 2 (.pointer (some ⟨g,0,none⟩)) ?_
 try simp only [Act.put,sx]
 refine anyD_t 3 (.pointer (some ⟨g,1,none⟩)) ?_
 try simp only [Act.put,sx]
 refine anyD_l 4 vo (⟨c1,q1,q2⟩) ?_
 try simp only [Act.put,sx]
 refine anyD_t 5 (.pointer (some ⟨w.heap.size,1,none⟩)) ?_
 try simp only [Act.put,sx]
 refine anyD_l 6 (.int .i64 an) (⟨c1,q1,q2⟩) ?_
 try simp only [Act.put,sx]
 refine anyD_t 7 (.pointer (some ⟨w.heap.size,2,none⟩)) ?_
 try simp only [Act.put,sx]
 refine anyD_l 8 (.int .i64 am) (⟨c1,q1,q2⟩) ?_
 try simp only [Act.put,sx]
 refine anyD_t 9 (.int .i64 n) ?_
 try simp only [Act.put,sx]
 refine anyD_t 10 (.agg #[.int .i64 3,.int .i64 an,.int .i64 am,.int .i64 n]) ?_
 try simp only [Act.put,sx]
 refine anyD_one (i:=11) rfl rfl (by kernel_rfl) (fun K HK=>?_)
 go_simp
 refine HK.out _ _ (fun _ hS=>?_) ?_
 · exact ⟨HC2.out.1,HC2.out.2.2.1,HC2.out.2.2.2.1⟩
 clear HK K
 try simp only [Act.put,sx]
 refine anyD_one (i:=12) rfl rfl (by kernel_rfl) (fun K HK=>?_)
 refine wp_append_at _ _ 39 rfl B 77 i0 (.agg #[.int .i64 0,.int .i64 0,.int .i64 0,.int .i64 0]) 4 32 Tryz.underlying39 HI.out HZ0.out HZ1.out HZ2.out rfl (by decide) _ _ _ rfl HO2.out ⟨w.heap.size+1,0,none⟩ 1 1 (ouCells ⟨3,an,am,n⟩) rfl rfl HN2.out (ou_one _) (by unfold maxLen; omega) (by omega) HS2.out ?_
 intro v3 w3 hown3 hgrow3 _
 obtain ⟨g3,cap3,rfl⟩:=slice_of_own hown3
 have HD3:=Lib.hid (HD2.out.addOut (o:=⟨3,an,am,n⟩) hgrow3 hown3)
 have HB3:=Lib.hid ((grown_below (g:=g) HB2.out HO2.out HS2.out hgrow3).setCell (p:=⟨g,1,none⟩) HD2.out.ge (.slice (some ⟨g3,0,none⟩) (X.out.length+1) cap3))
 have HBD3:=Lib.hid (blk_grown HD2.out.blk HO2.out (by decide) hgrow3)
 have HBA3:=Lib.hid (blk_grown HBA2.out HO2.out (by decide) hgrow3)
 obtain ⟨⟨d0,d1,d2⟩,e0,e1,e2⟩:=HBD3.out.facts3
 clear hown3 hgrow3
 refine HK.out _ _ (fun _ hS=>?_) ?_
 · exact ⟨d1,HBA3.out.four.1.2.1,HBA3.out.four.1.2.2.1⟩
 clear HK K
 try simp only [Act.put,sx]
 refine anyD_t 13 (.pointer (some ⟨g,0,none⟩)) ?_
 try simp only [Act.put,sx]
 refine anyD_t 14 (.pointer (some ⟨g,1,none⟩)) ?_
 try simp only [Act.put,sx]
 refine anyD_one (i:=15) rfl rfl (by kernel_rfl) (fun K HK=>?_)
 go_simp
 refine HK.out _ _ (fun h=>absurd h (by decide)) ?_
 clear HK K
 try simp only [Act.put,sx]
 refine anyD_done (by kernel_rfl) ?_
 go_wp2_with fail
 go_ret
 exact .of rfl rfl HB3.out HD3.out
set_option maxHeartbeats 4000000 in
set_option maxRecDepth 100000 in
theorem doWith_log (B g:Nat) (ve vo vi:Value) (X:Ds) (an am:Int) (ex:ByteArray) (n:Int) (w:World) (hD:DsAt B g w ve vo vi X) (hol:X.out.length≤1000) :
 Calls Tryz.prog 206 #[.pointer (some ⟨g,0,none⟩),acVal ⟨5,an,am,ex⟩,.int .i64 n] w (DidPost B g true ⟨X.env,X.out ++ [⟨5,0,0,n⟩],X.ins⟩ w):=by
 obtain ⟨i0,hi,hz0,hz1,hz2⟩:=info_parts Tryz.infoOut
 have HI:=Lib.hid hi
 have HZ0:=Lib.hid hz0
 have HZ1:=Lib.hid hz1
 have HZ2:=Lib.hid hz2
 have HD1:=hD.below (below_box w (acBox ⟨5,an,am,ex⟩))
 have HB0:=(Below.refl B w).alloc hD.lt (acBox ⟨5,an,am,ex⟩)
 obtain ⟨⟨c0,c1,c2⟩,f0,f1,f2⟩:=HD1.blk.facts3
 have HD2:=Lib.hid (HD1.below (below_box _ (.cells #[.int .i64 5,.int .i64 0,.int .i64 0,.int .i64 n] 77)))
 have HB2:=Lib.hid (HB0.alloc HD1.lt (.cells #[.int .i64 5,.int .i64 0,.int .i64 0,.int .i64 n] 77))
 have HO2:=Lib.hid HD2.out.out
 have HS2:=Lib.hid HD2.out.lt
 have HN2:=Lib.hid (new_ou (w.alloc (acBox ⟨5,an,am,ex⟩)) ⟨5,0,0,n⟩ (w.heap.size+1) (by simp))
 clear hi hz0 hz1 hz2 hD HD1 HB0
 go_enter Tryz.func206,Tryz.ntmps206
 go_wp2_with (at_builtin; refine wpList_append_own_at _ rfl _ _ 39 rfl B 77 i0 (.agg #[.int .i64 0,.int .i64 0,.int .i64 0,.int .i64 0]) 4 32 Tryz.underlying39 HI.out HZ0.out HZ1.out HZ2.out rfl (by decide) _ _ _ rfl HO2.out ⟨w.heap.size+1,0,none⟩ 1 1 (ouCells ⟨5,0,0,n⟩) rfl rfl HN2.out (ou_one _) ?c3 ?c4 HS2.out ?_)
 case c3=>unfold maxLen; omega
 case c4=>omega
 intro v3 w3 hown3 hgrow3 _ _
 obtain ⟨g3,cap3,rfl⟩:=slice_of_own hown3
 have HD3:=Lib.hid (HD2.out.addOut (o:=⟨5,0,0,n⟩) hgrow3 hown3)
 have HB3:=Lib.hid ((grown_below (g:=g) HB2.out HO2.out HS2.out hgrow3).setCell (p:=⟨g,1,none⟩) HD2.out.ge (.slice (some ⟨g3,0,none⟩) (X.out.length+1) cap3))
 have HBD3:=Lib.hid (blk_grown HD2.out.blk HO2.out (by decide) hgrow3)
 obtain ⟨⟨d0,d1,d2⟩,e0,e1,e2⟩:=HBD3.out.facts3
 clear hown3 hgrow3
 go_wp2_with fail
 go_ret
 exact .of rfl rfl HB3.out HD3.out
theorem doWith_any (B g:Nat) (ve vo vi:Value) (X:Ds) (a:Ac) (n:Int) (w:World) (hD:DsAt B g w ve vo vi X) (hel:X.env.length≤1000) (hol:X.out.length≤1000) (hk:a.kind=1 ∨ a.kind=3 ∨ a.kind=5) :
 Calls Tryz.prog 206 #[.pointer (some ⟨g,0,none⟩),acVal a,.int .i64 n] w (DidPost B g (doK a n X).isSome ((doK a n X).getD X) w):=by
 rcases hk with hk | hk | hk
 · exact doWith_assign B g ve vo vi X a n w hD hel hk
 · obtain ⟨kd,an,am,ex⟩:=a
   simp only at hk
   subst hk
   exact doWith_send B g ve vo vi X an am ex n w hD hol
 · obtain ⟨kd,an,am,ex⟩:=a
   simp only at hk
   subst hk
   exact doWith_log B g ve vo vi X an am ex n w hD hol

theorem eql_nn (w:World):(binOp .eql 30 .nilIface .nilIface).run Tryz.prog w=.ok (.bool true) w:=by kernel_rfl
theorem eql_code_no (p:Value) (w:World):(binOp .eql 30 (.iface 82 p) .nilIface).run Tryz.prog w=.ok (.bool false) w:=by kernel_rfl
theorem eql_spot_no (p:Value) (w:World):(binOp .eql 30 (.iface 106 p) .nilIface).run Tryz.prog w=.ok (.bool false) w:=by kernel_rfl
def SaidOf (v:Vl) (w:World) (e:Ending) (w':World):Prop :=
 Below w.heap.size w w'∧match v with
  | .ok k n=>e=.returned (.tuple #[.agg #[.int .i64 k,.int .i64 n],.nilIface])
  | .bad _=>∃ t p,e=.returned (.tuple #[.agg #[.int .i64 0,.int .i64 0],.iface t p])∧∀ W,(binOp .eql 30 (.iface t p) .nilIface).run Tryz.prog W=.ok (.bool false) W
theorem said_of {a:Ans} {env:List Int} {w w':World} {e:Ending} (h:OPost a env w e w'):SaidOf (valOfA a env) w e w':=by
 cases a with
 | toks o =>
  unfold OPost VPost at h
  obtain ⟨hb,h⟩:=h
  unfold SaidOf valOfA
  simp only
  generalize ans ⟨false,env,0⟩ o=v at *
  cases v with
  | ok k n=>exact ⟨hb,h⟩
  | bad c=>exact ⟨hb,_,_,h,fun W=>eql_code_no _ W⟩
 | form k =>
  obtain ⟨hb,g,he,_⟩:=h
  exact ⟨hb,_,_,he,fun W=>eql_spot_no _ W⟩
 | large=>exact ⟨h.1,_,_,h.2,fun W=>eql_code_no _ W⟩
set_option maxHeartbeats 4000000 in
set_option maxRecDepth 100000 in
theorem do_other (B g:Nat) (ve vo vi:Value) (X:Ds) (a:Ac) (w:World) (hD:DsAt B g w ve vo vi X) (h1:¬ a.kind=1) (h2:¬ a.kind=2) (h3:¬ a.kind=3) (h4:¬ a.kind=4) (h5:¬ a.kind=5) :
 Calls Tryz.prog 179 #[.pointer (some ⟨g,0,none⟩),acVal a] w (DidPost B g true X w):=by
 have HB0:=Lib.hid ((Below.refl B w).alloc hD.lt (acBox a))
 have HD1:=Lib.hid (hD.below (below_box w (acBox a)))
 have e1:(a.kind == 1)=false:=by simpa using h1
 have e2:(a.kind == 2)=false:=by simpa using h2
 have e3:(a.kind == 3)=false:=by simpa using h3
 have e4:(a.kind == 4)=false:=by simpa using h4
 have e5:(a.kind == 5)=false:=by simpa using h5
 clear hD h1 h2 h3 h4 h5
 go_enter Tryz.func179,Tryz.ntmps179
 go_wp2_with fail
 go_ret
 exact .of rfl rfl HB0.out HD1.out
set_option maxHeartbeats 4000000 in
set_option maxRecDepth 100000 in
theorem do_raise (B g:Nat) (ve vo vi:Value) (X:Ds) (an am:Int) (ex:ByteArray) (w:World) (hD:DsAt B g w ve vo vi X) (hil:X.ins.length≤1000) :
 Calls Tryz.prog 179 #[.pointer (some ⟨g,0,none⟩),acVal ⟨2,an,am,ex⟩] w (DidPost B g true ⟨X.env,X.out,X.ins ++ [an]⟩ w):=by
 obtain ⟨i0,hi,hz0,hz1,hz2⟩:=info_parts Tryz.info3
 have HI:=Lib.hid hi
 have HZ0:=Lib.hid hz0
 have HZ1:=Lib.hid hz1
 have HZ2:=Lib.hid hz2
 have HD1:=hD.below (below_box w (acBox ⟨2,an,am,ex⟩))
 have HBA1:=Blk.new w 104 #[.int .i64 2,.int .i64 an,.int .i64 am,.string ex]
 have HB0:=(Below.refl B w).alloc hD.lt (acBox ⟨2,an,am,ex⟩)
 obtain ⟨⟨c0,c1,c2⟩,f0,f1,f2⟩:=HD1.blk.facts3
 obtain ⟨⟨q0,q1,q2,q3⟩,_⟩:=HBA1.four
 have HD2:=Lib.hid ((HD1.below (below_box _ (.cells #[.int .i64 an] 3))).drew)
 have HBA2:=Lib.hid ((HBA1.alloc (.cells #[.int .i64 an] 3)).drew)
 have HB2:=Lib.hid ((HB0.alloc HD1.lt (.cells #[.int .i64 an] 3)).drew)
 have HO2:=Lib.hid HD2.out.ins
 have HS2:=Lib.hid HD2.out.lt
 have HC2:=Lib.hid (And.intro HD2.out.blk.facts3.1.2.2 HBA2.out.four.1)
 have HN2:=Lib.hid (new_in (w.alloc (acBox ⟨2,an,am,ex⟩)) an (w.heap.size+1) (by simp))
 clear hi hz0 hz1 hz2 hD HD1 HBA1 HB0
 go_enter Tryz.func179,Tryz.ntmps179
 go_wp2_with fail
 refine anyD_start (fun W=>W.cell? ⟨g,2,none⟩=some vi∧W.cell? ⟨w.heap.size,1,none⟩=some (.int .i64 an)) (fun i=>[11].contains i) (by kernel_rfl) ?_
 refine anyD_t 0 (.pointer (some ⟨g,0,none⟩)) ?_
 try simp only [Act.put,sx]
 refine anyD_t 1 (.pointer (some ⟨g,0,none⟩)) ?_
 try simp only [Act.put,sx]
 refine anyD_t 2 (.pointer (some ⟨g,0,none⟩)) ?_
 try simp only [Act.put,sx]
 refine anyD_t 3 (.pointer (some ⟨g,2,none⟩)) ?_
 try simp only [Act.put,sx]
 refine anyD_l 4 vi (⟨c2,q1⟩) ?_
 try simp only [Act.put,sx]
 refine anyD_t 5 (.pointer (some ⟨w.heap.size,1,none⟩)) ?_
 try simp only [Act.put,sx]
 refine anyD_l 6 (.int .i64 an) (⟨c2,q1⟩) ?_
 try simp only [Act.put,sx]
 refine anyD_one (i:=7) rfl rfl (by kernel_rfl) (fun K HK=>?_)
 go_simp
 refine HK.out _ _ (fun _ hS=>?_) ?_
 · exact ⟨HC2.out.1,HC2.out.2.2.1⟩
 clear HK K
 try simp only [Act.put,sx]
 refine anyD_one (i:=8) rfl rfl (by kernel_rfl) (fun K HK=>?_)
 refine wp_append_at _ _ 36 rfl B 3 i0 (.int .i64 0) 1 8 Tryz.underlying36 HI.out HZ0.out HZ1.out HZ2.out rfl (by decide) _ _ _ rfl HO2.out ⟨w.heap.size+1,0,none⟩ 1 1 [.int .i64 an] rfl rfl HN2.out (num_one _) (by unfold maxLen; omega) (by omega) HS2.out ?_
 intro v3 w3 hown3 hgrow3 _
 obtain ⟨g3,cap3,rfl⟩:=slice_of_own hown3
 have HD3:=Lib.hid (HD2.out.addIns (x:=an) hgrow3 hown3)
 have HB3:=Lib.hid ((grown_below (g:=g) HB2.out HO2.out HS2.out hgrow3).setCell (p:=⟨g,2,none⟩) HD2.out.ge (.slice (some ⟨g3,0,none⟩) (X.ins.length+1) cap3))
 have HBD3:=Lib.hid (blk_grown HD2.out.blk HO2.out (by decide) hgrow3)
 have HBA3:=Lib.hid (blk_grown HBA2.out HO2.out (by decide) hgrow3)
 obtain ⟨⟨d0,d1,d2⟩,e0,e1,e2⟩:=HBD3.out.facts3
 clear hown3 hgrow3
 refine HK.out _ _ (fun _ hS=>?_) ?_
 · exact ⟨d2,HBA3.out.four.1.2.1⟩
 clear HK K
 try simp only [Act.put,sx]
 refine anyD_t 9 (.pointer (some ⟨g,0,none⟩)) ?_
 try simp only [Act.put,sx]
 refine anyD_t 10 (.pointer (some ⟨g,2,none⟩)) ?_
 try simp only [Act.put,sx]
 refine anyD_one (i:=11) rfl rfl (by kernel_rfl) (fun K HK=>?_)
 go_simp
 refine HK.out _ _ (fun h=>absurd h (by decide)) ?_
 clear HK K
 try simp only [Act.put,sx]
 refine anyD_done (by kernel_rfl) ?_
 go_wp2_with fail
 go_ret
 exact .of rfl rfl HB3.out HD3.out
set_option maxHeartbeats 4000000 in
set_option maxRecDepth 100000 in
theorem do_cancel (B g:Nat) (ve vo vi:Value) (X:Ds) (an am:Int) (ex:ByteArray) (w:World) (hD:DsAt B g w ve vo vi X) (hol:X.out.length≤1000) :
 Calls Tryz.prog 179 #[.pointer (some ⟨g,0,none⟩),acVal ⟨4,an,am,ex⟩] w (DidPost B g true ⟨X.env,X.out ++ [⟨4,0,0,an⟩],X.ins⟩ w):=by
 obtain ⟨i0,hi,hz0,hz1,hz2⟩:=info_parts Tryz.infoOut
 have HI:=Lib.hid hi
 have HZ0:=Lib.hid hz0
 have HZ1:=Lib.hid hz1
 have HZ2:=Lib.hid hz2
 have HD1:=hD.below (below_box w (acBox ⟨4,an,am,ex⟩))
 have HBA1:=Blk.new w 104 #[.int .i64 4,.int .i64 an,.int .i64 am,.string ex]
 have HB0:=(Below.refl B w).alloc hD.lt (acBox ⟨4,an,am,ex⟩)
 obtain ⟨⟨c0,c1,c2⟩,f0,f1,f2⟩:=HD1.blk.facts3
 obtain ⟨⟨q0,q1,q2,q3⟩,_⟩:=HBA1.four
 have HD2:=Lib.hid ((HD1.below (below_box _ (.cells #[.int .i64 4,.int .i64 0,.int .i64 0,.int .i64 an] 77))).drew)
 have HBA2:=Lib.hid ((HBA1.alloc (.cells #[.int .i64 4,.int .i64 0,.int .i64 0,.int .i64 an] 77)).drew)
 have HB2:=Lib.hid ((HB0.alloc HD1.lt (.cells #[.int .i64 4,.int .i64 0,.int .i64 0,.int .i64 an] 77)).drew)
 have HO2:=Lib.hid HD2.out.out
 have HS2:=Lib.hid HD2.out.lt
 have HC2:=Lib.hid (And.intro HD2.out.blk.facts3.1.2.1 HBA2.out.four.1)
 have HN2:=Lib.hid (new_ou (w.alloc (acBox ⟨4,an,am,ex⟩)) ⟨4,0,0,an⟩ (w.heap.size+1) (by simp))
 clear hi hz0 hz1 hz2 hD HD1 HBA1 HB0
 go_enter Tryz.func179,Tryz.ntmps179
 go_wp2_with fail
 refine anyD_start (fun W=>W.cell? ⟨g,1,none⟩=some vo∧W.cell? ⟨w.heap.size,1,none⟩=some (.int .i64 an)) (fun i=>[12].contains i) (by kernel_rfl) ?_
 refine anyD_t 0 (.pointer (some ⟨g,0,none⟩)) ?_
 try simp only [Act.put,sx]
 refine anyD_t 1 (.pointer (some ⟨g,0,none⟩)) ?_
 try simp only [Act.put,sx]
 refine anyD_t 2 (.pointer (some ⟨g,0,none⟩)) ?_
 try simp only [Act.put,sx]
 refine anyD_t 3 (.pointer (some ⟨g,1,none⟩)) ?_
 try simp only [Act.put,sx]
 refine anyD_l 4 vo (⟨c1,q1⟩) ?_
 try simp only [Act.put,sx]
 refine anyD_t 5 (.pointer (some ⟨w.heap.size,1,none⟩)) ?_
 try simp only [Act.put,sx]
 refine anyD_l 6 (.int .i64 an) (⟨c1,q1⟩) ?_
 try simp only [Act.put,sx]
 refine anyD_t 7 (.agg #[.int .i64 4,.int .i64 0,.int .i64 0,.int .i64 an]) ?_
 try simp only [Act.put,sx]
 refine anyD_one (i:=8) rfl rfl (by kernel_rfl) (fun K HK=>?_)
 go_simp
 refine HK.out _ _ (fun _ hS=>?_) ?_
 · exact ⟨HC2.out.1,HC2.out.2.2.1⟩
 clear HK K
 try simp only [Act.put,sx]
 refine anyD_one (i:=9) rfl rfl (by kernel_rfl) (fun K HK=>?_)
 refine wp_append_at _ _ 39 rfl B 77 i0 (.agg #[.int .i64 0,.int .i64 0,.int .i64 0,.int .i64 0]) 4 32 Tryz.underlying39 HI.out HZ0.out HZ1.out HZ2.out rfl (by decide) _ _ _ rfl HO2.out ⟨w.heap.size+1,0,none⟩ 1 1 (ouCells ⟨4,0,0,an⟩) rfl rfl HN2.out (ou_one _) (by unfold maxLen; omega) (by omega) HS2.out ?_
 intro v3 w3 hown3 hgrow3 _
 obtain ⟨g3,cap3,rfl⟩:=slice_of_own hown3
 have HD3:=Lib.hid (HD2.out.addOut (o:=⟨4,0,0,an⟩) hgrow3 hown3)
 have HB3:=Lib.hid ((grown_below (g:=g) HB2.out HO2.out HS2.out hgrow3).setCell (p:=⟨g,1,none⟩) HD2.out.ge (.slice (some ⟨g3,0,none⟩) (X.out.length+1) cap3))
 have HBD3:=Lib.hid (blk_grown HD2.out.blk HO2.out (by decide) hgrow3)
 have HBA3:=Lib.hid (blk_grown HBA2.out HO2.out (by decide) hgrow3)
 obtain ⟨⟨d0,d1,d2⟩,e0,e1,e2⟩:=HBD3.out.facts3
 clear hown3 hgrow3
 refine HK.out _ _ (fun _ hS=>?_) ?_
 · exact ⟨d1,HBA3.out.four.1.2.1⟩
 clear HK K
 try simp only [Act.put,sx]
 refine anyD_t 10 (.pointer (some ⟨g,0,none⟩)) ?_
 try simp only [Act.put,sx]
 refine anyD_t 11 (.pointer (some ⟨g,1,none⟩)) ?_
 try simp only [Act.put,sx]
 refine anyD_one (i:=12) rfl rfl (by kernel_rfl) (fun K HK=>?_)
 go_simp
 refine HK.out _ _ (fun h=>absurd h (by decide)) ?_
 clear HK K
 try simp only [Act.put,sx]
 refine anyD_done (by kernel_rfl) ?_
 go_wp2_with fail
 go_ret
 exact .of rfl rfl HB3.out HD3.out

theorem blk_apart {w:World} {g g':Nat} {t t':TypeId} {cs cs':Array Value} (h:Blk w g t cs) (h':Blk w g' t' cs') (het:t ≠ t') (j:Nat) (u:Value):Blk (w.setCell ⟨g',j,none⟩ u) g t cs:=by
 have hne:g ≠ g':=by
  intro hc
  subst hc
  unfold Blk at h h'
  rw [h] at h'
  injection h' with h'
  injection h' with _ h5
  exact het h5
 exact (Below.heap_setCell w ⟨g',j,none⟩ u g hne).trans h
theorem DsAt.apart2 {B g p t:Nat} {w:World} {ve vo vi:Value} {X:Ds} {cs:Array Value} (h:DsAt B g w ve vo vi X) (hp:Blk w p t cs) (j:Nat) (u:Value) (h1:200 ≠ t) (h2:2 ≠ t) (h3:77 ≠ t) (h4:3 ≠ t):DsAt B g (w.setCell ⟨p,j,none⟩ u) ve vo vi X :=
 ⟨blk_apart h.blk hp h1 j u,h.ge,RowAt.apart h.env hp h2 j u,own_apart h.out hp h3 j u,own_apart h.ins hp h4 j u⟩
set_option maxHeartbeats 4000000 in
set_option maxRecDepth 100000 in
theorem do_val1_ok (B g:Nat) (ve vo vi:Value) (X:Ds) (an am:Int) (ex:ByteArray) (w:World) (hL:Laid w) (hs:ex.size≤1000000) (hD:DsAt B g w ve vo vi X) (hel:X.env.length≤1000) (hef:X.Fit) (hol:X.out.length≤1000) (n:Int) (hv:valA ex X.env=.ok 1 n) :
 Calls Tryz.prog 179 #[.pointer (some ⟨g,0,none⟩),acVal ⟨1,an,am,ex⟩] w (DidPost B g (doK ⟨1,an,am,ex⟩ n X).isSome ((doK ⟨1,an,am,ex⟩ n X).getD X) w):=by
 have HOF:=Lib.hid (fun (W:World) (h:Below w.heap.size w W)=>(of_any ex ve X.env W (hL.after h) hs (hD.env.nums.below h) hel hef).mono (fun e w' h=>said_of h))
 have hv':valOfA (parseAns ex.data.toList) X.env=.ok 1 n:=hv
 rw [hv'] at HOF
 have hnn:=fun W=>eql_nn W
 have HD1:=Lib.hid (hD.below (below_box w (acBox ⟨1,an,am,ex⟩)))
 have HBA1:=Lib.hid (Blk.new w 104 #[.int .i64 1,.int .i64 an,.int .i64 am,.string ex])
 have HB0:=Lib.hid ((Below.refl B w).alloc hD.lt (acBox ⟨1,an,am,ex⟩))
 have HL1:=Lib.hid (below_box w (acBox ⟨1,an,am,ex⟩)).drew
 have HGE:=Lib.hid hD.lt
 obtain ⟨⟨c0,c1,c2⟩,f0,f1,f2⟩:=HD1.out.blk.facts3
 obtain ⟨⟨q0,q1,q2,q3⟩,_⟩:=HBA1.out.four
 have HDW:=Lib.hid (fun (W:World) (hd:DsAt B g W ve vo vi X)=>doWith_any B g ve vo vi X ⟨1,an,am,ex⟩ n W hd hel hol (by simp))
 generalize (doK ⟨1,an,am,ex⟩ n X).isSome=rr at *
 generalize (doK ⟨1,an,am,ex⟩ n X).getD X=Y at *
 clear hL hs hD hv hv' 
 go_enter Tryz.func179,Tryz.ntmps179
 go_wp2_with fail
 refine anyD_start (fun W=>W.cell? ⟨w.heap.size,3,none⟩=some (.string ex)∧W.cell? ⟨g,0,none⟩=some ve) (fun i=>[11].contains i) (by kernel_rfl) ?_
 refine anyD_t 0 (.pointer (some ⟨w.heap.size,3,none⟩)) ?_
 try simp only [Act.put,sx]
 refine anyD_l 1 (.string ex) (⟨q3,c0⟩) ?_
 try simp only [Act.put,sx]
 refine anyD_t 2 (.pointer (some ⟨g,0,none⟩)) ?_
 try simp only [Act.put,sx]
 refine anyD_t 3 (.pointer (some ⟨g,0,none⟩)) ?_
 try simp only [Act.put,sx]
 refine anyD_t 4 (.pointer (some ⟨g,0,none⟩)) ?_
 try simp only [Act.put,sx]
 refine anyD_l 5 ve (⟨q3,c0⟩) ?_
 try simp only [Act.put,sx]
 refine anyD_two (i:=6) (j:=10) rfl rfl rfl rfl (by kernel_rfl) (fun K HK=>?orderA) (fun K HK=>?orderB)
 case' orderA =>
  go_simp
  refine (HOF.out _ HL1.out).mono ?_
  rintro e w2 ⟨hb2,he⟩
  have he:e=.returned (.tuple #[.agg #[.int .i64 1,.int .i64 n],.nilIface]):=he
  subst he
  have HD2:=Lib.hid (HD1.out.drew.below hb2)
  have HBA2:=Lib.hid (HBA1.out.drew.below hb2 HBA1.out.lt)
  have HB2:=Lib.hid (HB0.out.drew.trans (hb2.mono HD1.out.drew.lt))
  clear hb2
  go_simp
  refine HK.out _ _ (fun _ hS=>⟨HBA2.out.four.1.2.2.2,HD2.out.blk.facts3.1.1⟩) ?_
  clear HK K
  try simp only [Act.put,sx]
  refine anyD_t 7 (.tuple #[.agg #[.int .i64 1,.int .i64 n],.nilIface]) ?_
  try simp only [Act.put,sx]
  refine anyD_t 8 (.agg #[.int .i64 1,.int .i64 n]) ?_
  try simp only [Act.put,sx]
  refine anyD_t 9 .nilIface ?_
  try simp only [Act.put,sx]
  refine anyD_one (i:=10) rfl rfl (by kernel_rfl) (fun K HK=>?_)
  go_simp
  refine HK.out _ _ (fun _ hS=>⟨(HBA2.out.alloc (.cells #[.int .i64 0,.int .i64 0] 204)).four.1.2.2.2,(HD2.out.blk.alloc (.cells #[.int .i64 0,.int .i64 0] 204)).facts3.1.1⟩) ?_
  clear HK K
  try simp only [Act.put,sx]
  refine anyD_one (i:=11) rfl rfl (by kernel_rfl) (fun K HK=>?_)
  go_simp
  refine HK.out _ _ (fun h=>absurd h (by decide)) ?_
  clear HK K
  try simp only [Act.put,sx]
  refine anyD_t 12 .nilIface ?_
  try simp only [Act.put,sx]
  refine anyD_done (by kernel_rfl) ?_
  have HVF:=Lib.hid (Blk.new w2 204 #[.int .i64 1,.int .i64 n])
  have HDF:=Lib.hid (HD2.out.below (below_box w2 (.cells #[.int .i64 1,.int .i64 n] 204)))
  have HBF:=Lib.hid (HB2.out.alloc HD2.out.lt (.cells #[.int .i64 1,.int .i64 n] 204))
  have HAF:=Lib.hid (HBA2.out.alloc (.cells #[.int .i64 1,.int .i64 n] 204))
  obtain ⟨⟨y0,y1⟩,_⟩:=HVF.out.facts2
  obtain ⟨⟨z0,z1,z2,z3⟩,_⟩:=HAF.out.four
  go_wp2_with fail
  refine (HDW.out _ HDF.out).mono ?_
  rintro e w4 ⟨rfl,hb4,ve4,vo4,vi4,hd4⟩
  have HB4:=Lib.hid (HBF.out.trans hb4)
  have HD4:=Lib.hid hd4
  clear hb4 hd4
  go_wp2_with fail
  go_ret
  exact .of rfl rfl HB4.out HD4.out
 case' orderB =>
  go_simp
  refine HK.out _ _ (fun _ hS=>⟨HBA1.out.drew.alloc (.cells #[.int .i64 0,.int .i64 0] 204) |>.four.1.2.2.2,HD1.out.drew.blk.alloc (.cells #[.int .i64 0,.int .i64 0] 204) |>.facts3.1.1⟩) ?_
  clear HK K
  try simp only [Act.put,sx]
  refine anyD_one (i:=6) rfl rfl (by kernel_rfl) (fun K HK=>?_)
  go_simp
  refine (HOF.out _ (HL1.out.alloc (by simp) (.cells #[.int .i64 0,.int .i64 0] 204))).mono ?_
  rintro e w2 ⟨hb2,he⟩
  have he:e=.returned (.tuple #[.agg #[.int .i64 1,.int .i64 n],.nilIface]):=he
  subst he
  have HV3:=Lib.hid ((Blk.new_at (w.alloc (acBox ⟨1,an,am,ex⟩)) 204 #[.int .i64 0,.int .i64 0] (w.heap.size+1) (by simp)).drew.below hb2 (by simp))
  have HD3:=Lib.hid ((HD1.out.below (below_box _ (.cells #[.int .i64 0,.int .i64 0] 204))).drew.below hb2)
  have HBA3:=Lib.hid ((HBA1.out.alloc (.cells #[.int .i64 0,.int .i64 0] 204)).drew.below hb2 (HBA1.out.alloc (.cells #[.int .i64 0,.int .i64 0] 204)).lt)
  have HB3:=Lib.hid ((HB0.out.alloc HD1.out.lt (.cells #[.int .i64 0,.int .i64 0] 204)).drew.trans (hb2.mono (HD1.out.below (below_box _ (.cells #[.int .i64 0,.int .i64 0] 204))).drew.lt))
  clear hb2
  go_simp
  refine HK.out _ _ (fun _ hS=>⟨HBA3.out.four.1.2.2.2,HD3.out.blk.facts3.1.1⟩) ?_
  clear HK K
  try simp only [Act.put,sx]
  refine anyD_t 7 (.tuple #[.agg #[.int .i64 1,.int .i64 n],.nilIface]) ?_
  try simp only [Act.put,sx]
  refine anyD_t 8 (.agg #[.int .i64 1,.int .i64 n]) ?_
  try simp only [Act.put,sx]
  refine anyD_t 9 .nilIface ?_
  try simp only [Act.put,sx]
  obtain ⟨⟨v0,v1⟩,v2,v3⟩:=HV3.out.facts2
  refine anyD_one (i:=11) rfl rfl (by kernel_rfl) (fun K HK=>?_)
  go_simp
  refine HK.out _ _ (fun h=>absurd h (by decide)) ?_
  clear HK K
  try simp only [Act.put,sx]
  refine anyD_t 12 .nilIface ?_
  try simp only [Act.put,sx]
  refine anyD_done (by kernel_rfl) ?_
  have HVF:=Lib.hid (HV3.out.set2 (.int .i64 1) (.int .i64 n))
  have HDF:=Lib.hid ((HD3.out.apart2 HV3.out 0 (.int .i64 1) (by decide) (by decide) (by decide) (by decide)).apart2 (HV3.out.set_ 0 _) 1 (.int .i64 n) (by decide) (by decide) (by decide) (by decide))
  have HBF:=Lib.hid ((HB3.out.setCell (p:=⟨(w.heap.size+1),0,none⟩) (Nat.le_succ_of_le HGE.out) (.int .i64 1)).setCell (p:=⟨(w.heap.size+1),1,none⟩) (Nat.le_succ_of_le HGE.out) (.int .i64 n))
  have HAF:=Lib.hid (blk_apart (blk_apart HBA3.out HV3.out (by decide) 0 (.int .i64 1)) (HV3.out.set_ 0 _) (by decide) 1 (.int .i64 n))
  obtain ⟨⟨y0,y1⟩,_⟩:=HVF.out.facts2
  obtain ⟨⟨z0,z1,z2,z3⟩,_⟩:=HAF.out.four
  go_wp2_with fail
  refine (HDW.out _ HDF.out).mono ?_
  rintro e w4 ⟨rfl,hb4,ve4,vo4,vi4,hd4⟩
  have HB4:=Lib.hid (HBF.out.trans hb4)
  have HD4:=Lib.hid hd4
  clear hb4 hd4
  go_wp2_with fail
  go_ret
  exact .of rfl rfl HB4.out HD4.out
set_option maxHeartbeats 4000000 in
set_option maxRecDepth 100000 in
theorem do_val1_two (B g:Nat) (ve vo vi:Value) (X:Ds) (an am:Int) (ex:ByteArray) (w:World) (hL:Laid w) (hs:ex.size≤1000000) (hD:DsAt B g w ve vo vi X) (hel:X.env.length≤1000) (hef:X.Fit) (hol:X.out.length≤1000) (k n:Int) (hk:¬ k=1) (hv:valA ex X.env=.ok k n) :
 Calls Tryz.prog 179 #[.pointer (some ⟨g,0,none⟩),acVal ⟨1,an,am,ex⟩] w (DidPost B g false X w):=by
 have HOF:=Lib.hid (fun (W:World) (h:Below w.heap.size w W)=>(of_any ex ve X.env W (hL.after h) hs (hD.env.nums.below h) hel hef).mono (fun e w' h=>said_of h))
 have hv':valOfA (parseAns ex.data.toList) X.env=.ok k n:=hv
 rw [hv'] at HOF
 have hnn:=fun W=>eql_nn W
 have HD1:=Lib.hid (hD.below (below_box w (acBox ⟨1,an,am,ex⟩)))
 have HBA1:=Lib.hid (Blk.new w 104 #[.int .i64 1,.int .i64 an,.int .i64 am,.string ex])
 have HB0:=Lib.hid ((Below.refl B w).alloc hD.lt (acBox ⟨1,an,am,ex⟩))
 have HL1:=Lib.hid (below_box w (acBox ⟨1,an,am,ex⟩)).drew
 have HGE:=Lib.hid hD.lt
 obtain ⟨⟨c0,c1,c2⟩,f0,f1,f2⟩:=HD1.out.blk.facts3
 obtain ⟨⟨q0,q1,q2,q3⟩,_⟩:=HBA1.out.four
 have ek:(k == 1)=false:=by simpa using hk
 clear hL hs hD hv hv' hk
 go_enter Tryz.func179,Tryz.ntmps179
 go_wp2_with fail
 refine anyD_start (fun W=>W.cell? ⟨w.heap.size,3,none⟩=some (.string ex)∧W.cell? ⟨g,0,none⟩=some ve) (fun i=>[11].contains i) (by kernel_rfl) ?_
 refine anyD_t 0 (.pointer (some ⟨w.heap.size,3,none⟩)) ?_
 try simp only [Act.put,sx]
 refine anyD_l 1 (.string ex) (⟨q3,c0⟩) ?_
 try simp only [Act.put,sx]
 refine anyD_t 2 (.pointer (some ⟨g,0,none⟩)) ?_
 try simp only [Act.put,sx]
 refine anyD_t 3 (.pointer (some ⟨g,0,none⟩)) ?_
 try simp only [Act.put,sx]
 refine anyD_t 4 (.pointer (some ⟨g,0,none⟩)) ?_
 try simp only [Act.put,sx]
 refine anyD_l 5 ve (⟨q3,c0⟩) ?_
 try simp only [Act.put,sx]
 refine anyD_two (i:=6) (j:=10) rfl rfl rfl rfl (by kernel_rfl) (fun K HK=>?orderA) (fun K HK=>?orderB)
 case' orderA =>
  go_simp
  refine (HOF.out _ HL1.out).mono ?_
  rintro e w2 ⟨hb2,he⟩
  have he:e=.returned (.tuple #[.agg #[.int .i64 k,.int .i64 n],.nilIface]):=he
  subst he
  have HD2:=Lib.hid (HD1.out.drew.below hb2)
  have HBA2:=Lib.hid (HBA1.out.drew.below hb2 HBA1.out.lt)
  have HB2:=Lib.hid (HB0.out.drew.trans (hb2.mono HD1.out.drew.lt))
  clear hb2
  go_simp
  refine HK.out _ _ (fun _ hS=>⟨HBA2.out.four.1.2.2.2,HD2.out.blk.facts3.1.1⟩) ?_
  clear HK K
  try simp only [Act.put,sx]
  refine anyD_t 7 (.tuple #[.agg #[.int .i64 k,.int .i64 n],.nilIface]) ?_
  try simp only [Act.put,sx]
  refine anyD_t 8 (.agg #[.int .i64 k,.int .i64 n]) ?_
  try simp only [Act.put,sx]
  refine anyD_t 9 .nilIface ?_
  try simp only [Act.put,sx]
  refine anyD_one (i:=10) rfl rfl (by kernel_rfl) (fun K HK=>?_)
  go_simp
  refine HK.out _ _ (fun _ hS=>⟨(HBA2.out.alloc (.cells #[.int .i64 0,.int .i64 0] 204)).four.1.2.2.2,(HD2.out.blk.alloc (.cells #[.int .i64 0,.int .i64 0] 204)).facts3.1.1⟩) ?_
  clear HK K
  try simp only [Act.put,sx]
  refine anyD_one (i:=11) rfl rfl (by kernel_rfl) (fun K HK=>?_)
  go_simp
  refine HK.out _ _ (fun h=>absurd h (by decide)) ?_
  clear HK K
  try simp only [Act.put,sx]
  refine anyD_t 12 .nilIface ?_
  try simp only [Act.put,sx]
  refine anyD_done (by kernel_rfl) ?_
  have HVF:=Lib.hid (Blk.new w2 204 #[.int .i64 k,.int .i64 n])
  have HDF:=Lib.hid (HD2.out.below (below_box w2 (.cells #[.int .i64 k,.int .i64 n] 204)))
  have HBF:=Lib.hid (HB2.out.alloc HD2.out.lt (.cells #[.int .i64 k,.int .i64 n] 204))
  have HAF:=Lib.hid (HBA2.out.alloc (.cells #[.int .i64 k,.int .i64 n] 204))
  obtain ⟨⟨y0,y1⟩,_⟩:=HVF.out.facts2
  obtain ⟨⟨z0,z1,z2,z3⟩,_⟩:=HAF.out.four
  go_wp2_with fail
  go_ret
  exact .of rfl rfl HBF.out HDF.out
 case' orderB =>
  go_simp
  refine HK.out _ _ (fun _ hS=>⟨HBA1.out.drew.alloc (.cells #[.int .i64 0,.int .i64 0] 204) |>.four.1.2.2.2,HD1.out.drew.blk.alloc (.cells #[.int .i64 0,.int .i64 0] 204) |>.facts3.1.1⟩) ?_
  clear HK K
  try simp only [Act.put,sx]
  refine anyD_one (i:=6) rfl rfl (by kernel_rfl) (fun K HK=>?_)
  go_simp
  refine (HOF.out _ (HL1.out.alloc (by simp) (.cells #[.int .i64 0,.int .i64 0] 204))).mono ?_
  rintro e w2 ⟨hb2,he⟩
  have he:e=.returned (.tuple #[.agg #[.int .i64 k,.int .i64 n],.nilIface]):=he
  subst he
  have HV3:=Lib.hid ((Blk.new_at (w.alloc (acBox ⟨1,an,am,ex⟩)) 204 #[.int .i64 0,.int .i64 0] (w.heap.size+1) (by simp)).drew.below hb2 (by simp))
  have HD3:=Lib.hid ((HD1.out.below (below_box _ (.cells #[.int .i64 0,.int .i64 0] 204))).drew.below hb2)
  have HBA3:=Lib.hid ((HBA1.out.alloc (.cells #[.int .i64 0,.int .i64 0] 204)).drew.below hb2 (HBA1.out.alloc (.cells #[.int .i64 0,.int .i64 0] 204)).lt)
  have HB3:=Lib.hid ((HB0.out.alloc HD1.out.lt (.cells #[.int .i64 0,.int .i64 0] 204)).drew.trans (hb2.mono (HD1.out.below (below_box _ (.cells #[.int .i64 0,.int .i64 0] 204))).drew.lt))
  clear hb2
  go_simp
  refine HK.out _ _ (fun _ hS=>⟨HBA3.out.four.1.2.2.2,HD3.out.blk.facts3.1.1⟩) ?_
  clear HK K
  try simp only [Act.put,sx]
  refine anyD_t 7 (.tuple #[.agg #[.int .i64 k,.int .i64 n],.nilIface]) ?_
  try simp only [Act.put,sx]
  refine anyD_t 8 (.agg #[.int .i64 k,.int .i64 n]) ?_
  try simp only [Act.put,sx]
  refine anyD_t 9 .nilIface ?_
  try simp only [Act.put,sx]
  obtain ⟨⟨v0,v1⟩,v2,v3⟩:=HV3.out.facts2
  refine anyD_one (i:=11) rfl rfl (by kernel_rfl) (fun K HK=>?_)
  go_simp
  refine HK.out _ _ (fun h=>absurd h (by decide)) ?_
  clear HK K
  try simp only [Act.put,sx]
  refine anyD_t 12 .nilIface ?_
  try simp only [Act.put,sx]
  refine anyD_done (by kernel_rfl) ?_
  have HVF:=Lib.hid (HV3.out.set2 (.int .i64 k) (.int .i64 n))
  have HDF:=Lib.hid ((HD3.out.apart2 HV3.out 0 (.int .i64 k) (by decide) (by decide) (by decide) (by decide)).apart2 (HV3.out.set_ 0 _) 1 (.int .i64 n) (by decide) (by decide) (by decide) (by decide))
  have HBF:=Lib.hid ((HB3.out.setCell (p:=⟨(w.heap.size+1),0,none⟩) (Nat.le_succ_of_le HGE.out) (.int .i64 k)).setCell (p:=⟨(w.heap.size+1),1,none⟩) (Nat.le_succ_of_le HGE.out) (.int .i64 n))
  have HAF:=Lib.hid (blk_apart (blk_apart HBA3.out HV3.out (by decide) 0 (.int .i64 k)) (HV3.out.set_ 0 _) (by decide) 1 (.int .i64 n))
  obtain ⟨⟨y0,y1⟩,_⟩:=HVF.out.facts2
  obtain ⟨⟨z0,z1,z2,z3⟩,_⟩:=HAF.out.four
  go_wp2_with fail
  go_ret
  exact .of rfl rfl HBF.out HDF.out
set_option maxHeartbeats 4000000 in
set_option maxRecDepth 100000 in
theorem do_val1_bad (B g:Nat) (ve vo vi:Value) (X:Ds) (an am:Int) (ex:ByteArray) (w:World) (hL:Laid w) (hs:ex.size≤1000000) (hD:DsAt B g w ve vo vi X) (hel:X.env.length≤1000) (hef:X.Fit) (hol:X.out.length≤1000) (c:Int) (hv:valA ex X.env=.bad c) :
 Calls Tryz.prog 179 #[.pointer (some ⟨g,0,none⟩),acVal ⟨1,an,am,ex⟩] w (DidPost B g false X w):=by
 have HOF:=Lib.hid (fun (W:World) (h:Below w.heap.size w W)=>(of_any ex ve X.env W (hL.after h) hs (hD.env.nums.below h) hel hef).mono (fun e w' h=>said_of h))
 have hv':valOfA (parseAns ex.data.toList) X.env=.bad c:=hv
 rw [hv'] at HOF
 have hnn:=fun W=>eql_nn W
 have HD1:=Lib.hid (hD.below (below_box w (acBox ⟨1,an,am,ex⟩)))
 have HBA1:=Lib.hid (Blk.new w 104 #[.int .i64 1,.int .i64 an,.int .i64 am,.string ex])
 have HB0:=Lib.hid ((Below.refl B w).alloc hD.lt (acBox ⟨1,an,am,ex⟩))
 have HL1:=Lib.hid (below_box w (acBox ⟨1,an,am,ex⟩)).drew
 have HGE:=Lib.hid hD.lt
 obtain ⟨⟨c0,c1,c2⟩,f0,f1,f2⟩:=HD1.out.blk.facts3
 obtain ⟨⟨q0,q1,q2,q3⟩,_⟩:=HBA1.out.four
 clear hL hs hD hv hv' 
 go_enter Tryz.func179,Tryz.ntmps179
 go_wp2_with fail
 refine anyD_start (fun W=>W.cell? ⟨w.heap.size,3,none⟩=some (.string ex)∧W.cell? ⟨g,0,none⟩=some ve) (fun i=>[11].contains i) (by kernel_rfl) ?_
 refine anyD_t 0 (.pointer (some ⟨w.heap.size,3,none⟩)) ?_
 try simp only [Act.put,sx]
 refine anyD_l 1 (.string ex) (⟨q3,c0⟩) ?_
 try simp only [Act.put,sx]
 refine anyD_t 2 (.pointer (some ⟨g,0,none⟩)) ?_
 try simp only [Act.put,sx]
 refine anyD_t 3 (.pointer (some ⟨g,0,none⟩)) ?_
 try simp only [Act.put,sx]
 refine anyD_t 4 (.pointer (some ⟨g,0,none⟩)) ?_
 try simp only [Act.put,sx]
 refine anyD_l 5 ve (⟨q3,c0⟩) ?_
 try simp only [Act.put,sx]
 refine anyD_two (i:=6) (j:=10) rfl rfl rfl rfl (by kernel_rfl) (fun K HK=>?orderA) (fun K HK=>?orderB)
 case' orderA =>
  go_simp
  refine (HOF.out _ HL1.out).mono ?_
  rintro e w2 ⟨hb2,t,p,he,hne⟩
  have he:e=.returned (.tuple #[.agg #[.int .i64 0,.int .i64 0],.iface t p]):=he
  subst he
  have HD2:=Lib.hid (HD1.out.drew.below hb2)
  have HBA2:=Lib.hid (HBA1.out.drew.below hb2 HBA1.out.lt)
  have HB2:=Lib.hid (HB0.out.drew.trans (hb2.mono HD1.out.drew.lt))
  clear hb2
  go_simp
  refine HK.out _ _ (fun _ hS=>⟨HBA2.out.four.1.2.2.2,HD2.out.blk.facts3.1.1⟩) ?_
  clear HK K
  try simp only [Act.put,sx]
  refine anyD_t 7 (.tuple #[.agg #[.int .i64 0,.int .i64 0],.iface t p]) ?_
  try simp only [Act.put,sx]
  refine anyD_t 8 (.agg #[.int .i64 0,.int .i64 0]) ?_
  try simp only [Act.put,sx]
  refine anyD_t 9 (.iface t p) ?_
  try simp only [Act.put,sx]
  refine anyD_one (i:=10) rfl rfl (by kernel_rfl) (fun K HK=>?_)
  go_simp
  refine HK.out _ _ (fun _ hS=>⟨(HBA2.out.alloc (.cells #[.int .i64 0,.int .i64 0] 204)).four.1.2.2.2,(HD2.out.blk.alloc (.cells #[.int .i64 0,.int .i64 0] 204)).facts3.1.1⟩) ?_
  clear HK K
  try simp only [Act.put,sx]
  refine anyD_one (i:=11) rfl rfl (by kernel_rfl) (fun K HK=>?_)
  go_simp
  refine HK.out _ _ (fun h=>absurd h (by decide)) ?_
  clear HK K
  try simp only [Act.put,sx]
  refine anyD_t 12 (.iface t p) ?_
  try simp only [Act.put,sx]
  refine anyD_done (by kernel_rfl) ?_
  have HVF:=Lib.hid (Blk.new w2 204 #[.int .i64 0,.int .i64 0])
  have HDF:=Lib.hid (HD2.out.below (below_box w2 (.cells #[.int .i64 0,.int .i64 0] 204)))
  have HBF:=Lib.hid (HB2.out.alloc HD2.out.lt (.cells #[.int .i64 0,.int .i64 0] 204))
  have HAF:=Lib.hid (HBA2.out.alloc (.cells #[.int .i64 0,.int .i64 0] 204))
  obtain ⟨⟨y0,y1⟩,_⟩:=HVF.out.facts2
  obtain ⟨⟨z0,z1,z2,z3⟩,_⟩:=HAF.out.four
  go_wp2_with fail
  go_ret
  exact .of rfl rfl HBF.out HDF.out
 case' orderB =>
  go_simp
  refine HK.out _ _ (fun _ hS=>⟨HBA1.out.drew.alloc (.cells #[.int .i64 0,.int .i64 0] 204) |>.four.1.2.2.2,HD1.out.drew.blk.alloc (.cells #[.int .i64 0,.int .i64 0] 204) |>.facts3.1.1⟩) ?_
  clear HK K
  try simp only [Act.put,sx]
  refine anyD_one (i:=6) rfl rfl (by kernel_rfl) (fun K HK=>?_)
  go_simp
  refine (HOF.out _ (HL1.out.alloc (by simp) (.cells #[.int .i64 0,.int .i64 0] 204))).mono ?_
  rintro e w2 ⟨hb2,t,p,he,hne⟩
  have he:e=.returned (.tuple #[.agg #[.int .i64 0,.int .i64 0],.iface t p]):=he
  subst he
  have HV3:=Lib.hid ((Blk.new_at (w.alloc (acBox ⟨1,an,am,ex⟩)) 204 #[.int .i64 0,.int .i64 0] (w.heap.size+1) (by simp)).drew.below hb2 (by simp))
  have HD3:=Lib.hid ((HD1.out.below (below_box _ (.cells #[.int .i64 0,.int .i64 0] 204))).drew.below hb2)
  have HBA3:=Lib.hid ((HBA1.out.alloc (.cells #[.int .i64 0,.int .i64 0] 204)).drew.below hb2 (HBA1.out.alloc (.cells #[.int .i64 0,.int .i64 0] 204)).lt)
  have HB3:=Lib.hid ((HB0.out.alloc HD1.out.lt (.cells #[.int .i64 0,.int .i64 0] 204)).drew.trans (hb2.mono (HD1.out.below (below_box _ (.cells #[.int .i64 0,.int .i64 0] 204))).drew.lt))
  clear hb2
  go_simp
  refine HK.out _ _ (fun _ hS=>⟨HBA3.out.four.1.2.2.2,HD3.out.blk.facts3.1.1⟩) ?_
  clear HK K
  try simp only [Act.put,sx]
  refine anyD_t 7 (.tuple #[.agg #[.int .i64 0,.int .i64 0],.iface t p]) ?_
  try simp only [Act.put,sx]
  refine anyD_t 8 (.agg #[.int .i64 0,.int .i64 0]) ?_
  try simp only [Act.put,sx]
  refine anyD_t 9 (.iface t p) ?_
  try simp only [Act.put,sx]
  obtain ⟨⟨v0,v1⟩,v2,v3⟩:=HV3.out.facts2
  refine anyD_one (i:=11) rfl rfl (by kernel_rfl) (fun K HK=>?_)
  go_simp
  refine HK.out _ _ (fun h=>absurd h (by decide)) ?_
  clear HK K
  try simp only [Act.put,sx]
  refine anyD_t 12 (.iface t p) ?_
  try simp only [Act.put,sx]
  refine anyD_done (by kernel_rfl) ?_
  have HVF:=Lib.hid (HV3.out.set2 (.int .i64 0) (.int .i64 0))
  have HDF:=Lib.hid ((HD3.out.apart2 HV3.out 0 (.int .i64 0) (by decide) (by decide) (by decide) (by decide)).apart2 (HV3.out.set_ 0 _) 1 (.int .i64 0) (by decide) (by decide) (by decide) (by decide))
  have HBF:=Lib.hid ((HB3.out.setCell (p:=⟨(w.heap.size+1),0,none⟩) (Nat.le_succ_of_le HGE.out) (.int .i64 0)).setCell (p:=⟨(w.heap.size+1),1,none⟩) (Nat.le_succ_of_le HGE.out) (.int .i64 0))
  have HAF:=Lib.hid (blk_apart (blk_apart HBA3.out HV3.out (by decide) 0 (.int .i64 0)) (HV3.out.set_ 0 _) (by decide) 1 (.int .i64 0))
  obtain ⟨⟨y0,y1⟩,_⟩:=HVF.out.facts2
  obtain ⟨⟨z0,z1,z2,z3⟩,_⟩:=HAF.out.four
  go_wp2_with fail
  go_ret
  exact .of rfl rfl HBF.out HDF.out
end Go.Proofs.YtmhkpjcdkjnlnaaGreatDoor
