/- The contract of act's do, where an action has a text. -/
import Derived.Test.YtmhkpjcdkjnlnaaGreatDoorFUPkind
import Derived.Test.YtmhkpjcdkjnlnaaGreatDoorFUAde
namespace Go.Proofs.YtmhkpjcdkjnlnaaGreatDoor
open Go.ChangeShapes Go.WideShapes Go.ChangeAt Go.RowKit
set_option linter.unusedVariables false

set_option maxHeartbeats 4000000 in
set_option maxRecDepth 100000 in
theorem do_val3_ok (B g:Nat) (ve vo vi:Value) (X:Ds) (an am:Int) (ex:ByteArray) (w:World) (hL:Laid w) (hs:ex.size≤1000000) (hD:DsAt B g w ve vo vi X) (hel:X.env.length≤1000) (hef:X.Fit) (hol:X.out.length≤1000) (n:Int) (hv:valA ex X.env=.ok 1 n) :
 Calls Tryz.prog 179 #[.pointer (some ⟨g,0,none⟩),acVal ⟨3,an,am,ex⟩] w (DidPost B g (doK ⟨3,an,am,ex⟩ n X).isSome ((doK ⟨3,an,am,ex⟩ n X).getD X) w):=by
 have HOF:=Lib.hid (fun (W:World) (h:Below w.heap.size w W)=>(of_any ex ve X.env W (hL.after h) hs (hD.env.nums.below h) hel hef).mono (fun e w' h=>said_of h))
 have hv':valOfA (parseAns ex.data.toList) X.env=.ok 1 n:=hv
 rw [hv'] at HOF
 have hnn:=fun W=>eql_nn W
 have HD1:=Lib.hid (hD.below (below_box w (acBox ⟨3,an,am,ex⟩)))
 have HBA1:=Lib.hid (Blk.new w 104 #[.int .i64 3,.int .i64 an,.int .i64 am,.string ex])
 have HB0:=Lib.hid ((Below.refl B w).alloc hD.lt (acBox ⟨3,an,am,ex⟩))
 have HL1:=Lib.hid (below_box w (acBox ⟨3,an,am,ex⟩)).drew
 have HGE:=Lib.hid hD.lt
 obtain ⟨⟨c0,c1,c2⟩,f0,f1,f2⟩:=HD1.out.blk.facts3
 obtain ⟨⟨q0,q1,q2,q3⟩,_⟩:=HBA1.out.four
 have HDW:=Lib.hid (fun (W:World) (hd:DsAt B g W ve vo vi X)=>doWith_any B g ve vo vi X ⟨3,an,am,ex⟩ n W hd hel hol (by simp))
 generalize (doK ⟨3,an,am,ex⟩ n X).isSome=rr at *
 generalize (doK ⟨3,an,am,ex⟩ n X).getD X=Y at *
 clear hL hs hD hv hv' 
 go_enter Tryz.func179,Tryz.ntmps179
 go_wp2_with fail
 refine anyD_start (fun W=>W.cell? ⟨w.heap.size,3,none⟩=some (.string ex)∧W.cell? ⟨g,0,none⟩=some ve) (fun i=>[11].contains i) (by kernel_rfl) ?_
 refine anyD_t 0 (.pointer (some ⟨w.heap.size,3,none⟩)) ?_
 try simp only [Act.put,sx]
 refine anyD_l 1 (.string ex) (⟨q3,c0⟩) ?_
 try simp only [Act.put,sx]
 refine anyD_t 2 (.pointer (some ⟨g,0,none⟩)) ?_
 try simp only [Act.put,sx]
 refine anyD_t 3 (.pointer (some ⟨g,0,none⟩)) ?_
 try simp only [Act.put,sx]
 refine anyD_t 4 (.pointer (some ⟨g,0,none⟩)) ?_
 try simp only [Act.put,sx]
 refine anyD_l 5 ve (⟨q3,c0⟩) ?_
 try simp only [Act.put,sx]
 refine anyD_two (i:=6) (j:=10) rfl rfl rfl rfl (by kernel_rfl) (fun K HK=>?orderA) (fun K HK=>?orderB)
 case' orderA =>
  go_simp
  refine (HOF.out _ HL1.out).mono ?_
  rintro e w2 ⟨hb2,he⟩
  have he:e=.returned (.tuple #[.agg #[.int .i64 1,.int .i64 n],.nilIface]):=he
  subst he
  have HD2:=Lib.hid (HD1.out.drew.below hb2)
  have HBA2:=Lib.hid (HBA1.out.drew.below hb2 HBA1.out.lt)
  have HB2:=Lib.hid (HB0.out.drew.trans (hb2.mono HD1.out.drew.lt))
  clear hb2
  go_simp
  refine HK.out _ _ (fun _ hS=>⟨HBA2.out.four.1.2.2.2,HD2.out.blk.facts3.1.1⟩) ?_
  clear HK K
  try simp only [Act.put,sx]
  refine anyD_t 7 (.tuple #[.agg #[.int .i64 1,.int .i64 n],.nilIface]) ?_
  try simp only [Act.put,sx]
  refine anyD_t 8 (.agg #[.int .i64 1,.int .i64 n]) ?_
  try simp only [Act.put,sx]
  refine anyD_t 9 .nilIface ?_
  try simp only [Act.put,sx]
  refine anyD_one (i:=10) rfl rfl (by kernel_rfl) (fun K HK=>?_)
  go_simp
  refine HK.out _ _ (fun _ hS=>⟨(HBA2.out.alloc (.cells #[.int .i64 0,.int .i64 0] 204)).four.1.2.2.2,(HD2.out.blk.alloc (.cells #[.int .i64 0,.int .i64 0] 204)).facts3.1.1⟩) ?_
  clear HK K
  try simp only [Act.put,sx]
  refine anyD_one (i:=11) rfl rfl (by kernel_rfl) (fun K HK=>?_)
  go_simp
  refine HK.out _ _ (fun h=>absurd h (by decide)) ?_
  clear HK K
  try simp only [Act.put,sx]
  refine anyD_t 12 .nilIface ?_
  try simp only [Act.put,sx]
  refine anyD_done (by kernel_rfl) ?_
  have HVF:=Lib.hid (Blk.new w2 204 #[.int .i64 1,.int .i64 n])
  have HDF:=Lib.hid (HD2.out.below (below_box w2 (.cells #[.int .i64 1,.int .i64 n] 204)))
  have HBF:=Lib.hid (HB2.out.alloc HD2.out.lt (.cells #[.int .i64 1,.int .i64 n] 204))
  have HAF:=Lib.hid (HBA2.out.alloc (.cells #[.int .i64 1,.int .i64 n] 204))
  obtain ⟨⟨y0,y1⟩,_⟩:=HVF.out.facts2
  obtain ⟨⟨z0,z1,z2,z3⟩,_⟩:=HAF.out.four
  go_wp2_with fail
  refine (HDW.out _ HDF.out).mono ?_
  rintro e w4 ⟨rfl,hb4,ve4,vo4,vi4,hd4⟩
  have HB4:=Lib.hid (HBF.out.trans hb4)
  have HD4:=Lib.hid hd4
  clear hb4 hd4
  go_wp2_with fail
  go_ret
  exact .of rfl rfl HB4.out HD4.out
 case' orderB =>
  go_simp
  refine HK.out _ _ (fun _ hS=>⟨HBA1.out.drew.alloc (.cells #[.int .i64 0,.int .i64 0] 204) |>.four.1.2.2.2,HD1.out.drew.blk.alloc (.cells #[.int .i64 0,.int .i64 0] 204) |>.facts3.1.1⟩) ?_
  clear HK K
  try simp only [Act.put,sx]
  refine anyD_one (i:=6) rfl rfl (by kernel_rfl) (fun K HK=>?_)
  go_simp
  refine (HOF.out _ (HL1.out.alloc (by simp) (.cells #[.int .i64 0,.int .i64 0] 204))).mono ?_
  rintro e w2 ⟨hb2,he⟩
  have he:e=.returned (.tuple #[.agg #[.int .i64 1,.int .i64 n],.nilIface]):=he
  subst he
  have HV3:=Lib.hid ((Blk.new_at (w.alloc (acBox ⟨3,an,am,ex⟩)) 204 #[.int .i64 0,.int .i64 0] (w.heap.size+1) (by simp)).drew.below hb2 (by simp))
  have HD3:=Lib.hid ((HD1.out.below (below_box _ (.cells #[.int .i64 0,.int .i64 0] 204))).drew.below hb2)
  have HBA3:=Lib.hid ((HBA1.out.alloc (.cells #[.int .i64 0,.int .i64 0] 204)).drew.below hb2 (HBA1.out.alloc (.cells #[.int .i64 0,.int .i64 0] 204)).lt)
  have HB3:=Lib.hid ((HB0.out.alloc HD1.out.lt (.cells #[.int .i64 0,.int .i64 0] 204)).drew.trans (hb2.mono (HD1.out.below (below_box _ (.cells #[.int .i64 0,.int .i64 0] 204))).drew.lt))
  clear hb2
  go_simp
  refine HK.out _ _ (fun _ hS=>⟨HBA3.out.four.1.2.2.2,HD3.out.blk.facts3.1.1⟩) ?_
  clear HK K
  try simp only [Act.put,sx]
  refine anyD_t 7 (.tuple #[.agg #[.int .i64 1,.int .i64 n],.nilIface]) ?_
  try simp only [Act.put,sx]
  refine anyD_t 8 (.agg #[.int .i64 1,.int .i64 n]) ?_
  try simp only [Act.put,sx]
  refine anyD_t 9 .nilIface ?_
  try simp only [Act.put,sx]
  obtain ⟨⟨v0,v1⟩,v2,v3⟩:=HV3.out.facts2
  refine anyD_one (i:=11) rfl rfl (by kernel_rfl) (fun K HK=>?_)
  go_simp
  refine HK.out _ _ (fun h=>absurd h (by decide)) ?_
  clear HK K
  try simp only [Act.put,sx]
  refine anyD_t 12 .nilIface ?_
  try simp only [Act.put,sx]
  refine anyD_done (by kernel_rfl) ?_
  have HVF:=Lib.hid (HV3.out.set2 (.int .i64 1) (.int .i64 n))
  have HDF:=Lib.hid ((HD3.out.apart2 HV3.out 0 (.int .i64 1) (by decide) (by decide) (by decide) (by decide)).apart2 (HV3.out.set_ 0 _) 1 (.int .i64 n) (by decide) (by decide) (by decide) (by decide))
  have HBF:=Lib.hid ((HB3.out.setCell (p:=⟨(w.heap.size+1),0,none⟩) (Nat.le_succ_of_le HGE.out) (.int .i64 1)).setCell (p:=⟨(w.heap.size+1),1,none⟩) (Nat.le_succ_of_le HGE.out) (.int .i64 n))
  have HAF:=Lib.hid (blk_apart (blk_apart HBA3.out HV3.out (by decide) 0 (.int .i64 1)) (HV3.out.set_ 0 _) (by decide) 1 (.int .i64 n))
  obtain ⟨⟨y0,y1⟩,_⟩:=HVF.out.facts2
  obtain ⟨⟨z0,z1,z2,z3⟩,_⟩:=HAF.out.four
  go_wp2_with fail
  refine (HDW.out _ HDF.out).mono ?_
  rintro e w4 ⟨rfl,hb4,ve4,vo4,vi4,hd4⟩
  have HB4:=Lib.hid (HBF.out.trans hb4)
  have HD4:=Lib.hid hd4
  clear hb4 hd4
  go_wp2_with fail
  go_ret
  exact .of rfl rfl HB4.out HD4.out
set_option maxHeartbeats 4000000 in
set_option maxRecDepth 100000 in
theorem do_val3_two (B g:Nat) (ve vo vi:Value) (X:Ds) (an am:Int) (ex:ByteArray) (w:World) (hL:Laid w) (hs:ex.size≤1000000) (hD:DsAt B g w ve vo vi X) (hel:X.env.length≤1000) (hef:X.Fit) (hol:X.out.length≤1000) (k n:Int) (hk:¬ k=1) (hv:valA ex X.env=.ok k n) :
 Calls Tryz.prog 179 #[.pointer (some ⟨g,0,none⟩),acVal ⟨3,an,am,ex⟩] w (DidPost B g false X w):=by
 have HOF:=Lib.hid (fun (W:World) (h:Below w.heap.size w W)=>(of_any ex ve X.env W (hL.after h) hs (hD.env.nums.below h) hel hef).mono (fun e w' h=>said_of h))
 have hv':valOfA (parseAns ex.data.toList) X.env=.ok k n:=hv
 rw [hv'] at HOF
 have hnn:=fun W=>eql_nn W
 have HD1:=Lib.hid (hD.below (below_box w (acBox ⟨3,an,am,ex⟩)))
 have HBA1:=Lib.hid (Blk.new w 104 #[.int .i64 3,.int .i64 an,.int .i64 am,.string ex])
 have HB0:=Lib.hid ((Below.refl B w).alloc hD.lt (acBox ⟨3,an,am,ex⟩))
 have HL1:=Lib.hid (below_box w (acBox ⟨3,an,am,ex⟩)).drew
 have HGE:=Lib.hid hD.lt
 obtain ⟨⟨c0,c1,c2⟩,f0,f1,f2⟩:=HD1.out.blk.facts3
 obtain ⟨⟨q0,q1,q2,q3⟩,_⟩:=HBA1.out.four
 have ek:(k == 1)=false:=by simpa using hk
 clear hL hs hD hv hv' hk
 go_enter Tryz.func179,Tryz.ntmps179
 go_wp2_with fail
 refine anyD_start (fun W=>W.cell? ⟨w.heap.size,3,none⟩=some (.string ex)∧W.cell? ⟨g,0,none⟩=some ve) (fun i=>[11].contains i) (by kernel_rfl) ?_
 refine anyD_t 0 (.pointer (some ⟨w.heap.size,3,none⟩)) ?_
 try simp only [Act.put,sx]
 refine anyD_l 1 (.string ex) (⟨q3,c0⟩) ?_
 try simp only [Act.put,sx]
 refine anyD_t 2 (.pointer (some ⟨g,0,none⟩)) ?_
 try simp only [Act.put,sx]
 refine anyD_t 3 (.pointer (some ⟨g,0,none⟩)) ?_
 try simp only [Act.put,sx]
 refine anyD_t 4 (.pointer (some ⟨g,0,none⟩)) ?_
 try simp only [Act.put,sx]
 refine anyD_l 5 ve (⟨q3,c0⟩) ?_
 try simp only [Act.put,sx]
 refine anyD_two (i:=6) (j:=10) rfl rfl rfl rfl (by kernel_rfl) (fun K HK=>?orderA) (fun K HK=>?orderB)
 case' orderA =>
  go_simp
  refine (HOF.out _ HL1.out).mono ?_
  rintro e w2 ⟨hb2,he⟩
  have he:e=.returned (.tuple #[.agg #[.int .i64 k,.int .i64 n],.nilIface]):=he
  subst he
  have HD2:=Lib.hid (HD1.out.drew.below hb2)
  have HBA2:=Lib.hid (HBA1.out.drew.below hb2 HBA1.out.lt)
  have HB2:=Lib.hid (HB0.out.drew.trans (hb2.mono HD1.out.drew.lt))
  clear hb2
  go_simp
  refine HK.out _ _ (fun _ hS=>⟨HBA2.out.four.1.2.2.2,HD2.out.blk.facts3.1.1⟩) ?_
  clear HK K
  try simp only [Act.put,sx]
  refine anyD_t 7 (.tuple #[.agg #[.int .i64 k,.int .i64 n],.nilIface]) ?_
  try simp only [Act.put,sx]
  refine anyD_t 8 (.agg #[.int .i64 k,.int .i64 n]) ?_
  try simp only [Act.put,sx]
  refine anyD_t 9 .nilIface ?_
  try simp only [Act.put,sx]
  refine anyD_one (i:=10) rfl rfl (by kernel_rfl) (fun K HK=>?_)
  go_simp
  refine HK.out _ _ (fun _ hS=>⟨(HBA2.out.alloc (.cells #[.int .i64 0,.int .i64 0] 204)).four.1.2.2.2,(HD2.out.blk.alloc (.cells #[.int .i64 0,.int .i64 0] 204)).facts3.1.1⟩) ?_
  clear HK K
  try simp only [Act.put,sx]
  refine anyD_one (i:=11) rfl rfl (by kernel_rfl) (fun K HK=>?_)
  go_simp
  refine HK.out _ _ (fun h=>absurd h (by decide)) ?_
  clear HK K
  try simp only [Act.put,sx]
  refine anyD_t 12 .nilIface ?_
  try simp only [Act.put,sx]
  refine anyD_done (by kernel_rfl) ?_
  have HVF:=Lib.hid (Blk.new w2 204 #[.int .i64 k,.int .i64 n])
  have HDF:=Lib.hid (HD2.out.below (below_box w2 (.cells #[.int .i64 k,.int .i64 n] 204)))
  have HBF:=Lib.hid (HB2.out.alloc HD2.out.lt (.cells #[.int .i64 k,.int .i64 n] 204))
  have HAF:=Lib.hid (HBA2.out.alloc (.cells #[.int .i64 k,.int .i64 n] 204))
  obtain ⟨⟨y0,y1⟩,_⟩:=HVF.out.facts2
  obtain ⟨⟨z0,z1,z2,z3⟩,_⟩:=HAF.out.four
  go_wp2_with fail
  go_ret
  exact .of rfl rfl HBF.out HDF.out
 case' orderB =>
  go_simp
  refine HK.out _ _ (fun _ hS=>⟨HBA1.out.drew.alloc (.cells #[.int .i64 0,.int .i64 0] 204) |>.four.1.2.2.2,HD1.out.drew.blk.alloc (.cells #[.int .i64 0,.int .i64 0] 204) |>.facts3.1.1⟩) ?_
  clear HK K
  try simp only [Act.put,sx]
  refine anyD_one (i:=6) rfl rfl (by kernel_rfl) (fun K HK=>?_)
  go_simp
  refine (HOF.out _ (HL1.out.alloc (by simp) (.cells #[.int .i64 0,.int .i64 0] 204))).mono ?_
  rintro e w2 ⟨hb2,he⟩
  have he:e=.returned (.tuple #[.agg #[.int .i64 k,.int .i64 n],.nilIface]):=he
  subst he
  have HV3:=Lib.hid ((Blk.new_at (w.alloc (acBox ⟨3,an,am,ex⟩)) 204 #[.int .i64 0,.int .i64 0] (w.heap.size+1) (by simp)).drew.below hb2 (by simp))
  have HD3:=Lib.hid ((HD1.out.below (below_box _ (.cells #[.int .i64 0,.int .i64 0] 204))).drew.below hb2)
  have HBA3:=Lib.hid ((HBA1.out.alloc (.cells #[.int .i64 0,.int .i64 0] 204)).drew.below hb2 (HBA1.out.alloc (.cells #[.int .i64 0,.int .i64 0] 204)).lt)
  have HB3:=Lib.hid ((HB0.out.alloc HD1.out.lt (.cells #[.int .i64 0,.int .i64 0] 204)).drew.trans (hb2.mono (HD1.out.below (below_box _ (.cells #[.int .i64 0,.int .i64 0] 204))).drew.lt))
  clear hb2
  go_simp
  refine HK.out _ _ (fun _ hS=>⟨HBA3.out.four.1.2.2.2,HD3.out.blk.facts3.1.1⟩) ?_
  clear HK K
  try simp only [Act.put,sx]
  refine anyD_t 7 (.tuple #[.agg #[.int .i64 k,.int .i64 n],.nilIface]) ?_
  try simp only [Act.put,sx]
  refine anyD_t 8 (.agg #[.int .i64 k,.int .i64 n]) ?_
  try simp only [Act.put,sx]
  refine anyD_t 9 .nilIface ?_
  try simp only [Act.put,sx]
  obtain ⟨⟨v0,v1⟩,v2,v3⟩:=HV3.out.facts2
  refine anyD_one (i:=11) rfl rfl (by kernel_rfl) (fun K HK=>?_)
  go_simp
  refine HK.out _ _ (fun h=>absurd h (by decide)) ?_
  clear HK K
  try simp only [Act.put,sx]
  refine anyD_t 12 .nilIface ?_
  try simp only [Act.put,sx]
  refine anyD_done (by kernel_rfl) ?_
  have HVF:=Lib.hid (HV3.out.set2 (.int .i64 k) (.int .i64 n))
  have HDF:=Lib.hid ((HD3.out.apart2 HV3.out 0 (.int .i64 k) (by decide) (by decide) (by decide) (by decide)).apart2 (HV3.out.set_ 0 _) 1 (.int .i64 n) (by decide) (by decide) (by decide) (by decide))
  have HBF:=Lib.hid ((HB3.out.setCell (p:=⟨(w.heap.size+1),0,none⟩) (Nat.le_succ_of_le HGE.out) (.int .i64 k)).setCell (p:=⟨(w.heap.size+1),1,none⟩) (Nat.le_succ_of_le HGE.out) (.int .i64 n))
  have HAF:=Lib.hid (blk_apart (blk_apart HBA3.out HV3.out (by decide) 0 (.int .i64 k)) (HV3.out.set_ 0 _) (by decide) 1 (.int .i64 n))
  obtain ⟨⟨y0,y1⟩,_⟩:=HVF.out.facts2
  obtain ⟨⟨z0,z1,z2,z3⟩,_⟩:=HAF.out.four
  go_wp2_with fail
  go_ret
  exact .of rfl rfl HBF.out HDF.out
set_option maxHeartbeats 4000000 in
set_option maxRecDepth 100000 in
theorem do_val3_bad (B g:Nat) (ve vo vi:Value) (X:Ds) (an am:Int) (ex:ByteArray) (w:World) (hL:Laid w) (hs:ex.size≤1000000) (hD:DsAt B g w ve vo vi X) (hel:X.env.length≤1000) (hef:X.Fit) (hol:X.out.length≤1000) (c:Int) (hv:valA ex X.env=.bad c) :
 Calls Tryz.prog 179 #[.pointer (some ⟨g,0,none⟩),acVal ⟨3,an,am,ex⟩] w (DidPost B g false X w):=by
 have HOF:=Lib.hid (fun (W:World) (h:Below w.heap.size w W)=>(of_any ex ve X.env W (hL.after h) hs (hD.env.nums.below h) hel hef).mono (fun e w' h=>said_of h))
 have hv':valOfA (parseAns ex.data.toList) X.env=.bad c:=hv
 rw [hv'] at HOF
 have hnn:=fun W=>eql_nn W
 have HD1:=Lib.hid (hD.below (below_box w (acBox ⟨3,an,am,ex⟩)))
 have HBA1:=Lib.hid (Blk.new w 104 #[.int .i64 3,.int .i64 an,.int .i64 am,.string ex])
 have HB0:=Lib.hid ((Below.refl B w).alloc hD.lt (acBox ⟨3,an,am,ex⟩))
 have HL1:=Lib.hid (below_box w (acBox ⟨3,an,am,ex⟩)).drew
 have HGE:=Lib.hid hD.lt
 obtain ⟨⟨c0,c1,c2⟩,f0,f1,f2⟩:=HD1.out.blk.facts3
 obtain ⟨⟨q0,q1,q2,q3⟩,_⟩:=HBA1.out.four
 clear hL hs hD hv hv' 
 go_enter Tryz.func179,Tryz.ntmps179
 go_wp2_with fail
 refine anyD_start (fun W=>W.cell? ⟨w.heap.size,3,none⟩=some (.string ex)∧W.cell? ⟨g,0,none⟩=some ve) (fun i=>[11].contains i) (by kernel_rfl) ?_
 refine anyD_t 0 (.pointer (some ⟨w.heap.size,3,none⟩)) ?_
 try simp only [Act.put,sx]
 refine anyD_l 1 (.string ex) (⟨q3,c0⟩) ?_
 try simp only [Act.put,sx]
 refine anyD_t 2 (.pointer (some ⟨g,0,none⟩)) ?_
 try simp only [Act.put,sx]
 refine anyD_t 3 (.pointer (some ⟨g,0,none⟩)) ?_
 try simp only [Act.put,sx]
 refine anyD_t 4 (.pointer (some ⟨g,0,none⟩)) ?_
 try simp only [Act.put,sx]
 refine anyD_l 5 ve (⟨q3,c0⟩) ?_
 try simp only [Act.put,sx]
 refine anyD_two (i:=6) (j:=10) rfl rfl rfl rfl (by kernel_rfl) (fun K HK=>?orderA) (fun K HK=>?orderB)
 case' orderA =>
  go_simp
  refine (HOF.out _ HL1.out).mono ?_
  rintro e w2 ⟨hb2,t,p,he,hne⟩
  have he:e=.returned (.tuple #[.agg #[.int .i64 0,.int .i64 0],.iface t p]):=he
  subst he
  have HD2:=Lib.hid (HD1.out.drew.below hb2)
  have HBA2:=Lib.hid (HBA1.out.drew.below hb2 HBA1.out.lt)
  have HB2:=Lib.hid (HB0.out.drew.trans (hb2.mono HD1.out.drew.lt))
  clear hb2
  go_simp
  refine HK.out _ _ (fun _ hS=>⟨HBA2.out.four.1.2.2.2,HD2.out.blk.facts3.1.1⟩) ?_
  clear HK K
  try simp only [Act.put,sx]
  refine anyD_t 7 (.tuple #[.agg #[.int .i64 0,.int .i64 0],.iface t p]) ?_
  try simp only [Act.put,sx]
  refine anyD_t 8 (.agg #[.int .i64 0,.int .i64 0]) ?_
  try simp only [Act.put,sx]
  refine anyD_t 9 (.iface t p) ?_
  try simp only [Act.put,sx]
  refine anyD_one (i:=10) rfl rfl (by kernel_rfl) (fun K HK=>?_)
  go_simp
  refine HK.out _ _ (fun _ hS=>⟨(HBA2.out.alloc (.cells #[.int .i64 0,.int .i64 0] 204)).four.1.2.2.2,(HD2.out.blk.alloc (.cells #[.int .i64 0,.int .i64 0] 204)).facts3.1.1⟩) ?_
  clear HK K
  try simp only [Act.put,sx]
  refine anyD_one (i:=11) rfl rfl (by kernel_rfl) (fun K HK=>?_)
  go_simp
  refine HK.out _ _ (fun h=>absurd h (by decide)) ?_
  clear HK K
  try simp only [Act.put,sx]
  refine anyD_t 12 (.iface t p) ?_
  try simp only [Act.put,sx]
  refine anyD_done (by kernel_rfl) ?_
  have HVF:=Lib.hid (Blk.new w2 204 #[.int .i64 0,.int .i64 0])
  have HDF:=Lib.hid (HD2.out.below (below_box w2 (.cells #[.int .i64 0,.int .i64 0] 204)))
  have HBF:=Lib.hid (HB2.out.alloc HD2.out.lt (.cells #[.int .i64 0,.int .i64 0] 204))
  have HAF:=Lib.hid (HBA2.out.alloc (.cells #[.int .i64 0,.int .i64 0] 204))
  obtain ⟨⟨y0,y1⟩,_⟩:=HVF.out.facts2
  obtain ⟨⟨z0,z1,z2,z3⟩,_⟩:=HAF.out.four
  go_wp2_with fail
  go_ret
  exact .of rfl rfl HBF.out HDF.out
 case' orderB =>
  go_simp
  refine HK.out _ _ (fun _ hS=>⟨HBA1.out.drew.alloc (.cells #[.int .i64 0,.int .i64 0] 204) |>.four.1.2.2.2,HD1.out.drew.blk.alloc (.cells #[.int .i64 0,.int .i64 0] 204) |>.facts3.1.1⟩) ?_
  clear HK K
  try simp only [Act.put,sx]
  refine anyD_one (i:=6) rfl rfl (by kernel_rfl) (fun K HK=>?_)
  go_simp
  refine (HOF.out _ (HL1.out.alloc (by simp) (.cells #[.int .i64 0,.int .i64 0] 204))).mono ?_
  rintro e w2 ⟨hb2,t,p,he,hne⟩
  have he:e=.returned (.tuple #[.agg #[.int .i64 0,.int .i64 0],.iface t p]):=he
  subst he
  have HV3:=Lib.hid ((Blk.new_at (w.alloc (acBox ⟨3,an,am,ex⟩)) 204 #[.int .i64 0,.int .i64 0] (w.heap.size+1) (by simp)).drew.below hb2 (by simp))
  have HD3:=Lib.hid ((HD1.out.below (below_box _ (.cells #[.int .i64 0,.int .i64 0] 204))).drew.below hb2)
  have HBA3:=Lib.hid ((HBA1.out.alloc (.cells #[.int .i64 0,.int .i64 0] 204)).drew.below hb2 (HBA1.out.alloc (.cells #[.int .i64 0,.int .i64 0] 204)).lt)
  have HB3:=Lib.hid ((HB0.out.alloc HD1.out.lt (.cells #[.int .i64 0,.int .i64 0] 204)).drew.trans (hb2.mono (HD1.out.below (below_box _ (.cells #[.int .i64 0,.int .i64 0] 204))).drew.lt))
  clear hb2
  go_simp
  refine HK.out _ _ (fun _ hS=>⟨HBA3.out.four.1.2.2.2,HD3.out.blk.facts3.1.1⟩) ?_
  clear HK K
  try simp only [Act.put,sx]
  refine anyD_t 7 (.tuple #[.agg #[.int .i64 0,.int .i64 0],.iface t p]) ?_
  try simp only [Act.put,sx]
  refine anyD_t 8 (.agg #[.int .i64 0,.int .i64 0]) ?_
  try simp only [Act.put,sx]
  refine anyD_t 9 (.iface t p) ?_
  try simp only [Act.put,sx]
  obtain ⟨⟨v0,v1⟩,v2,v3⟩:=HV3.out.facts2
  refine anyD_one (i:=11) rfl rfl (by kernel_rfl) (fun K HK=>?_)
  go_simp
  refine HK.out _ _ (fun h=>absurd h (by decide)) ?_
  clear HK K
  try simp only [Act.put,sx]
  refine anyD_t 12 (.iface t p) ?_
  try simp only [Act.put,sx]
  refine anyD_done (by kernel_rfl) ?_
  have HVF:=Lib.hid (HV3.out.set2 (.int .i64 0) (.int .i64 0))
  have HDF:=Lib.hid ((HD3.out.apart2 HV3.out 0 (.int .i64 0) (by decide) (by decide) (by decide) (by decide)).apart2 (HV3.out.set_ 0 _) 1 (.int .i64 0) (by decide) (by decide) (by decide) (by decide))
  have HBF:=Lib.hid ((HB3.out.setCell (p:=⟨(w.heap.size+1),0,none⟩) (Nat.le_succ_of_le HGE.out) (.int .i64 0)).setCell (p:=⟨(w.heap.size+1),1,none⟩) (Nat.le_succ_of_le HGE.out) (.int .i64 0))
  have HAF:=Lib.hid (blk_apart (blk_apart HBA3.out HV3.out (by decide) 0 (.int .i64 0)) (HV3.out.set_ 0 _) (by decide) 1 (.int .i64 0))
  obtain ⟨⟨y0,y1⟩,_⟩:=HVF.out.facts2
  obtain ⟨⟨z0,z1,z2,z3⟩,_⟩:=HAF.out.four
  go_wp2_with fail
  go_ret
  exact .of rfl rfl HBF.out HDF.out
set_option maxHeartbeats 4000000 in
set_option maxRecDepth 100000 in
theorem do_val5_ok (B g:Nat) (ve vo vi:Value) (X:Ds) (an am:Int) (ex:ByteArray) (w:World) (hL:Laid w) (hs:ex.size≤1000000) (hD:DsAt B g w ve vo vi X) (hel:X.env.length≤1000) (hef:X.Fit) (hol:X.out.length≤1000) (n:Int) (hv:valA ex X.env=.ok 1 n) :
 Calls Tryz.prog 179 #[.pointer (some ⟨g,0,none⟩),acVal ⟨5,an,am,ex⟩] w (DidPost B g (doK ⟨5,an,am,ex⟩ n X).isSome ((doK ⟨5,an,am,ex⟩ n X).getD X) w):=by
 have HOF:=Lib.hid (fun (W:World) (h:Below w.heap.size w W)=>(of_any ex ve X.env W (hL.after h) hs (hD.env.nums.below h) hel hef).mono (fun e w' h=>said_of h))
 have hv':valOfA (parseAns ex.data.toList) X.env=.ok 1 n:=hv
 rw [hv'] at HOF
 have hnn:=fun W=>eql_nn W
 have HD1:=Lib.hid (hD.below (below_box w (acBox ⟨5,an,am,ex⟩)))
 have HBA1:=Lib.hid (Blk.new w 104 #[.int .i64 5,.int .i64 an,.int .i64 am,.string ex])
 have HB0:=Lib.hid ((Below.refl B w).alloc hD.lt (acBox ⟨5,an,am,ex⟩))
 have HL1:=Lib.hid (below_box w (acBox ⟨5,an,am,ex⟩)).drew
 have HGE:=Lib.hid hD.lt
 obtain ⟨⟨c0,c1,c2⟩,f0,f1,f2⟩:=HD1.out.blk.facts3
 obtain ⟨⟨q0,q1,q2,q3⟩,_⟩:=HBA1.out.four
 have HDW:=Lib.hid (fun (W:World) (hd:DsAt B g W ve vo vi X)=>doWith_any B g ve vo vi X ⟨5,an,am,ex⟩ n W hd hel hol (by simp))
 generalize (doK ⟨5,an,am,ex⟩ n X).isSome=rr at *
 generalize (doK ⟨5,an,am,ex⟩ n X).getD X=Y at *
 clear hL hs hD hv hv' 
 go_enter Tryz.func179,Tryz.ntmps179
 go_wp2_with fail
 refine anyD_start (fun W=>W.cell? ⟨w.heap.size,3,none⟩=some (.string ex)∧W.cell? ⟨g,0,none⟩=some ve) (fun i=>[11].contains i) (by kernel_rfl) ?_
 refine anyD_t 0 (.pointer (some ⟨w.heap.size,3,none⟩)) ?_
 try simp only [Act.put,sx]
 refine anyD_l 1 (.string ex) (⟨q3,c0⟩) ?_
 try simp only [Act.put,sx]
 refine anyD_t 2 (.pointer (some ⟨g,0,none⟩)) ?_
 try simp only [Act.put,sx]
 refine anyD_t 3 (.pointer (some ⟨g,0,none⟩)) ?_
 try simp only [Act.put,sx]
 refine anyD_t 4 (.pointer (some ⟨g,0,none⟩)) ?_
 try simp only [Act.put,sx]
 refine anyD_l 5 ve (⟨q3,c0⟩) ?_
 try simp only [Act.put,sx]
 refine anyD_two (i:=6) (j:=10) rfl rfl rfl rfl (by kernel_rfl) (fun K HK=>?orderA) (fun K HK=>?orderB)
 case' orderA =>
  go_simp
  refine (HOF.out _ HL1.out).mono ?_
  rintro e w2 ⟨hb2,he⟩
  have he:e=.returned (.tuple #[.agg #[.int .i64 1,.int .i64 n],.nilIface]):=he
  subst he
  have HD2:=Lib.hid (HD1.out.drew.below hb2)
  have HBA2:=Lib.hid (HBA1.out.drew.below hb2 HBA1.out.lt)
  have HB2:=Lib.hid (HB0.out.drew.trans (hb2.mono HD1.out.drew.lt))
  clear hb2
  go_simp
  refine HK.out _ _ (fun _ hS=>⟨HBA2.out.four.1.2.2.2,HD2.out.blk.facts3.1.1⟩) ?_
  clear HK K
  try simp only [Act.put,sx]
  refine anyD_t 7 (.tuple #[.agg #[.int .i64 1,.int .i64 n],.nilIface]) ?_
  try simp only [Act.put,sx]
  refine anyD_t 8 (.agg #[.int .i64 1,.int .i64 n]) ?_
  try simp only [Act.put,sx]
  refine anyD_t 9 .nilIface ?_
  try simp only [Act.put,sx]
  refine anyD_one (i:=10) rfl rfl (by kernel_rfl) (fun K HK=>?_)
  go_simp
  refine HK.out _ _ (fun _ hS=>⟨(HBA2.out.alloc (.cells #[.int .i64 0,.int .i64 0] 204)).four.1.2.2.2,(HD2.out.blk.alloc (.cells #[.int .i64 0,.int .i64 0] 204)).facts3.1.1⟩) ?_
  clear HK K
  try simp only [Act.put,sx]
  refine anyD_one (i:=11) rfl rfl (by kernel_rfl) (fun K HK=>?_)
  go_simp
  refine HK.out _ _ (fun h=>absurd h (by decide)) ?_
  clear HK K
  try simp only [Act.put,sx]
  refine anyD_t 12 .nilIface ?_
  try simp only [Act.put,sx]
  refine anyD_done (by kernel_rfl) ?_
  have HVF:=Lib.hid (Blk.new w2 204 #[.int .i64 1,.int .i64 n])
  have HDF:=Lib.hid (HD2.out.below (below_box w2 (.cells #[.int .i64 1,.int .i64 n] 204)))
  have HBF:=Lib.hid (HB2.out.alloc HD2.out.lt (.cells #[.int .i64 1,.int .i64 n] 204))
  have HAF:=Lib.hid (HBA2.out.alloc (.cells #[.int .i64 1,.int .i64 n] 204))
  obtain ⟨⟨y0,y1⟩,_⟩:=HVF.out.facts2
  obtain ⟨⟨z0,z1,z2,z3⟩,_⟩:=HAF.out.four
  go_wp2_with fail
  refine (HDW.out _ HDF.out).mono ?_
  rintro e w4 ⟨rfl,hb4,ve4,vo4,vi4,hd4⟩
  have HB4:=Lib.hid (HBF.out.trans hb4)
  have HD4:=Lib.hid hd4
  clear hb4 hd4
  go_wp2_with fail
  go_ret
  exact .of rfl rfl HB4.out HD4.out
 case' orderB =>
  go_simp
  refine HK.out _ _ (fun _ hS=>⟨HBA1.out.drew.alloc (.cells #[.int .i64 0,.int .i64 0] 204) |>.four.1.2.2.2,HD1.out.drew.blk.alloc (.cells #[.int .i64 0,.int .i64 0] 204) |>.facts3.1.1⟩) ?_
  clear HK K
  try simp only [Act.put,sx]
  refine anyD_one (i:=6) rfl rfl (by kernel_rfl) (fun K HK=>?_)
  go_simp
  refine (HOF.out _ (HL1.out.alloc (by simp) (.cells #[.int .i64 0,.int .i64 0] 204))).mono ?_
  rintro e w2 ⟨hb2,he⟩
  have he:e=.returned (.tuple #[.agg #[.int .i64 1,.int .i64 n],.nilIface]):=he
  subst he
  have HV3:=Lib.hid ((Blk.new_at (w.alloc (acBox ⟨5,an,am,ex⟩)) 204 #[.int .i64 0,.int .i64 0] (w.heap.size+1) (by simp)).drew.below hb2 (by simp))
  have HD3:=Lib.hid ((HD1.out.below (below_box _ (.cells #[.int .i64 0,.int .i64 0] 204))).drew.below hb2)
  have HBA3:=Lib.hid ((HBA1.out.alloc (.cells #[.int .i64 0,.int .i64 0] 204)).drew.below hb2 (HBA1.out.alloc (.cells #[.int .i64 0,.int .i64 0] 204)).lt)
  have HB3:=Lib.hid ((HB0.out.alloc HD1.out.lt (.cells #[.int .i64 0,.int .i64 0] 204)).drew.trans (hb2.mono (HD1.out.below (below_box _ (.cells #[.int .i64 0,.int .i64 0] 204))).drew.lt))
  clear hb2
  go_simp
  refine HK.out _ _ (fun _ hS=>⟨HBA3.out.four.1.2.2.2,HD3.out.blk.facts3.1.1⟩) ?_
  clear HK K
  try simp only [Act.put,sx]
  refine anyD_t 7 (.tuple #[.agg #[.int .i64 1,.int .i64 n],.nilIface]) ?_
  try simp only [Act.put,sx]
  refine anyD_t 8 (.agg #[.int .i64 1,.int .i64 n]) ?_
  try simp only [Act.put,sx]
  refine anyD_t 9 .nilIface ?_
  try simp only [Act.put,sx]
  obtain ⟨⟨v0,v1⟩,v2,v3⟩:=HV3.out.facts2
  refine anyD_one (i:=11) rfl rfl (by kernel_rfl) (fun K HK=>?_)
  go_simp
  refine HK.out _ _ (fun h=>absurd h (by decide)) ?_
  clear HK K
  try simp only [Act.put,sx]
  refine anyD_t 12 .nilIface ?_
  try simp only [Act.put,sx]
  refine anyD_done (by kernel_rfl) ?_
  have HVF:=Lib.hid (HV3.out.set2 (.int .i64 1) (.int .i64 n))
  have HDF:=Lib.hid ((HD3.out.apart2 HV3.out 0 (.int .i64 1) (by decide) (by decide) (by decide) (by decide)).apart2 (HV3.out.set_ 0 _) 1 (.int .i64 n) (by decide) (by decide) (by decide) (by decide))
  have HBF:=Lib.hid ((HB3.out.setCell (p:=⟨(w.heap.size+1),0,none⟩) (Nat.le_succ_of_le HGE.out) (.int .i64 1)).setCell (p:=⟨(w.heap.size+1),1,none⟩) (Nat.le_succ_of_le HGE.out) (.int .i64 n))
  have HAF:=Lib.hid (blk_apart (blk_apart HBA3.out HV3.out (by decide) 0 (.int .i64 1)) (HV3.out.set_ 0 _) (by decide) 1 (.int .i64 n))
  obtain ⟨⟨y0,y1⟩,_⟩:=HVF.out.facts2
  obtain ⟨⟨z0,z1,z2,z3⟩,_⟩:=HAF.out.four
  go_wp2_with fail
  refine (HDW.out _ HDF.out).mono ?_
  rintro e w4 ⟨rfl,hb4,ve4,vo4,vi4,hd4⟩
  have HB4:=Lib.hid (HBF.out.trans hb4)
  have HD4:=Lib.hid hd4
  clear hb4 hd4
  go_wp2_with fail
  go_ret
  exact .of rfl rfl HB4.out HD4.out
set_option maxHeartbeats 4000000 in
set_option maxRecDepth 100000 in
theorem do_val5_two (B g:Nat) (ve vo vi:Value) (X:Ds) (an am:Int) (ex:ByteArray) (w:World) (hL:Laid w) (hs:ex.size≤1000000) (hD:DsAt B g w ve vo vi X) (hel:X.env.length≤1000) (hef:X.Fit) (hol:X.out.length≤1000) (k n:Int) (hk:¬ k=1) (hv:valA ex X.env=.ok k n) :
 Calls Tryz.prog 179 #[.pointer (some ⟨g,0,none⟩),acVal ⟨5,an,am,ex⟩] w (DidPost B g false X w):=by
 have HOF:=Lib.hid (fun (W:World) (h:Below w.heap.size w W)=>(of_any ex ve X.env W (hL.after h) hs (hD.env.nums.below h) hel hef).mono (fun e w' h=>said_of h))
 have hv':valOfA (parseAns ex.data.toList) X.env=.ok k n:=hv
 rw [hv'] at HOF
 have hnn:=fun W=>eql_nn W
 have HD1:=Lib.hid (hD.below (below_box w (acBox ⟨5,an,am,ex⟩)))
 have HBA1:=Lib.hid (Blk.new w 104 #[.int .i64 5,.int .i64 an,.int .i64 am,.string ex])
 have HB0:=Lib.hid ((Below.refl B w).alloc hD.lt (acBox ⟨5,an,am,ex⟩))
 have HL1:=Lib.hid (below_box w (acBox ⟨5,an,am,ex⟩)).drew
 have HGE:=Lib.hid hD.lt
 obtain ⟨⟨c0,c1,c2⟩,f0,f1,f2⟩:=HD1.out.blk.facts3
 obtain ⟨⟨q0,q1,q2,q3⟩,_⟩:=HBA1.out.four
 have ek:(k == 1)=false:=by simpa using hk
 clear hL hs hD hv hv' hk
 go_enter Tryz.func179,Tryz.ntmps179
 go_wp2_with fail
 refine anyD_start (fun W=>W.cell? ⟨w.heap.size,3,none⟩=some (.string ex)∧W.cell? ⟨g,0,none⟩=some ve) (fun i=>[11].contains i) (by kernel_rfl) ?_
 refine anyD_t 0 (.pointer (some ⟨w.heap.size,3,none⟩)) ?_
 try simp only [Act.put,sx]
 refine anyD_l 1 (.string ex) (⟨q3,c0⟩) ?_
 try simp only [Act.put,sx]
 refine anyD_t 2 (.pointer (some ⟨g,0,none⟩)) ?_
 try simp only [Act.put,sx]
 refine anyD_t 3 (.pointer (some ⟨g,0,none⟩)) ?_
 try simp only [Act.put,sx]
 refine anyD_t 4 (.pointer (some ⟨g,0,none⟩)) ?_
 try simp only [Act.put,sx]
 refine anyD_l 5 ve (⟨q3,c0⟩) ?_
 try simp only [Act.put,sx]
 refine anyD_two (i:=6) (j:=10) rfl rfl rfl rfl (by kernel_rfl) (fun K HK=>?orderA) (fun K HK=>?orderB)
 case' orderA =>
  go_simp
  refine (HOF.out _ HL1.out).mono ?_
  rintro e w2 ⟨hb2,he⟩
  have he:e=.returned (.tuple #[.agg #[.int .i64 k,.int .i64 n],.nilIface]):=he
  subst he
  have HD2:=Lib.hid (HD1.out.drew.below hb2)
  have HBA2:=Lib.hid (HBA1.out.drew.below hb2 HBA1.out.lt)
  have HB2:=Lib.hid (HB0.out.drew.trans (hb2.mono HD1.out.drew.lt))
  clear hb2
  go_simp
  refine HK.out _ _ (fun _ hS=>⟨HBA2.out.four.1.2.2.2,HD2.out.blk.facts3.1.1⟩) ?_
  clear HK K
  try simp only [Act.put,sx]
  refine anyD_t 7 (.tuple #[.agg #[.int .i64 k,.int .i64 n],.nilIface]) ?_
  try simp only [Act.put,sx]
  refine anyD_t 8 (.agg #[.int .i64 k,.int .i64 n]) ?_
  try simp only [Act.put,sx]
  refine anyD_t 9 .nilIface ?_
  try simp only [Act.put,sx]
  refine anyD_one (i:=10) rfl rfl (by kernel_rfl) (fun K HK=>?_)
  go_simp
  refine HK.out _ _ (fun _ hS=>⟨(HBA2.out.alloc (.cells #[.int .i64 0,.int .i64 0] 204)).four.1.2.2.2,(HD2.out.blk.alloc (.cells #[.int .i64 0,.int .i64 0] 204)).facts3.1.1⟩) ?_
  clear HK K
  try simp only [Act.put,sx]
  refine anyD_one (i:=11) rfl rfl (by kernel_rfl) (fun K HK=>?_)
  go_simp
  refine HK.out _ _ (fun h=>absurd h (by decide)) ?_
  clear HK K
  try simp only [Act.put,sx]
  refine anyD_t 12 .nilIface ?_
  try simp only [Act.put,sx]
  refine anyD_done (by kernel_rfl) ?_
  have HVF:=Lib.hid (Blk.new w2 204 #[.int .i64 k,.int .i64 n])
  have HDF:=Lib.hid (HD2.out.below (below_box w2 (.cells #[.int .i64 k,.int .i64 n] 204)))
  have HBF:=Lib.hid (HB2.out.alloc HD2.out.lt (.cells #[.int .i64 k,.int .i64 n] 204))
  have HAF:=Lib.hid (HBA2.out.alloc (.cells #[.int .i64 k,.int .i64 n] 204))
  obtain ⟨⟨y0,y1⟩,_⟩:=HVF.out.facts2
  obtain ⟨⟨z0,z1,z2,z3⟩,_⟩:=HAF.out.four
  go_wp2_with fail
  go_ret
  exact .of rfl rfl HBF.out HDF.out
 case' orderB =>
  go_simp
  refine HK.out _ _ (fun _ hS=>⟨HBA1.out.drew.alloc (.cells #[.int .i64 0,.int .i64 0] 204) |>.four.1.2.2.2,HD1.out.drew.blk.alloc (.cells #[.int .i64 0,.int .i64 0] 204) |>.facts3.1.1⟩) ?_
  clear HK K
  try simp only [Act.put,sx]
  refine anyD_one (i:=6) rfl rfl (by kernel_rfl) (fun K HK=>?_)
  go_simp
  refine (HOF.out _ (HL1.out.alloc (by simp) (.cells #[.int .i64 0,.int .i64 0] 204))).mono ?_
  rintro e w2 ⟨hb2,he⟩
  have he:e=.returned (.tuple #[.agg #[.int .i64 k,.int .i64 n],.nilIface]):=he
  subst he
  have HV3:=Lib.hid ((Blk.new_at (w.alloc (acBox ⟨5,an,am,ex⟩)) 204 #[.int .i64 0,.int .i64 0] (w.heap.size+1) (by simp)).drew.below hb2 (by simp))
  have HD3:=Lib.hid ((HD1.out.below (below_box _ (.cells #[.int .i64 0,.int .i64 0] 204))).drew.below hb2)
  have HBA3:=Lib.hid ((HBA1.out.alloc (.cells #[.int .i64 0,.int .i64 0] 204)).drew.below hb2 (HBA1.out.alloc (.cells #[.int .i64 0,.int .i64 0] 204)).lt)
  have HB3:=Lib.hid ((HB0.out.alloc HD1.out.lt (.cells #[.int .i64 0,.int .i64 0] 204)).drew.trans (hb2.mono (HD1.out.below (below_box _ (.cells #[.int .i64 0,.int .i64 0] 204))).drew.lt))
  clear hb2
  go_simp
  refine HK.out _ _ (fun _ hS=>⟨HBA3.out.four.1.2.2.2,HD3.out.blk.facts3.1.1⟩) ?_
  clear HK K
  try simp only [Act.put,sx]
  refine anyD_t 7 (.tuple #[.agg #[.int .i64 k,.int .i64 n],.nilIface]) ?_
  try simp only [Act.put,sx]
  refine anyD_t 8 (.agg #[.int .i64 k,.int .i64 n]) ?_
  try simp only [Act.put,sx]
  refine anyD_t 9 .nilIface ?_
  try simp only [Act.put,sx]
  obtain ⟨⟨v0,v1⟩,v2,v3⟩:=HV3.out.facts2
  refine anyD_one (i:=11) rfl rfl (by kernel_rfl) (fun K HK=>?_)
  go_simp
  refine HK.out _ _ (fun h=>absurd h (by decide)) ?_
  clear HK K
  try simp only [Act.put,sx]
  refine anyD_t 12 .nilIface ?_
  try simp only [Act.put,sx]
  refine anyD_done (by kernel_rfl) ?_
  have HVF:=Lib.hid (HV3.out.set2 (.int .i64 k) (.int .i64 n))
  have HDF:=Lib.hid ((HD3.out.apart2 HV3.out 0 (.int .i64 k) (by decide) (by decide) (by decide) (by decide)).apart2 (HV3.out.set_ 0 _) 1 (.int .i64 n) (by decide) (by decide) (by decide) (by decide))
  have HBF:=Lib.hid ((HB3.out.setCell (p:=⟨(w.heap.size+1),0,none⟩) (Nat.le_succ_of_le HGE.out) (.int .i64 k)).setCell (p:=⟨(w.heap.size+1),1,none⟩) (Nat.le_succ_of_le HGE.out) (.int .i64 n))
  have HAF:=Lib.hid (blk_apart (blk_apart HBA3.out HV3.out (by decide) 0 (.int .i64 k)) (HV3.out.set_ 0 _) (by decide) 1 (.int .i64 n))
  obtain ⟨⟨y0,y1⟩,_⟩:=HVF.out.facts2
  obtain ⟨⟨z0,z1,z2,z3⟩,_⟩:=HAF.out.four
  go_wp2_with fail
  go_ret
  exact .of rfl rfl HBF.out HDF.out
set_option maxHeartbeats 4000000 in
set_option maxRecDepth 100000 in
theorem do_val5_bad (B g:Nat) (ve vo vi:Value) (X:Ds) (an am:Int) (ex:ByteArray) (w:World) (hL:Laid w) (hs:ex.size≤1000000) (hD:DsAt B g w ve vo vi X) (hel:X.env.length≤1000) (hef:X.Fit) (hol:X.out.length≤1000) (c:Int) (hv:valA ex X.env=.bad c) :
 Calls Tryz.prog 179 #[.pointer (some ⟨g,0,none⟩),acVal ⟨5,an,am,ex⟩] w (DidPost B g false X w):=by
 have HOF:=Lib.hid (fun (W:World) (h:Below w.heap.size w W)=>(of_any ex ve X.env W (hL.after h) hs (hD.env.nums.below h) hel hef).mono (fun e w' h=>said_of h))
 have hv':valOfA (parseAns ex.data.toList) X.env=.bad c:=hv
 rw [hv'] at HOF
 have hnn:=fun W=>eql_nn W
 have HD1:=Lib.hid (hD.below (below_box w (acBox ⟨5,an,am,ex⟩)))
 have HBA1:=Lib.hid (Blk.new w 104 #[.int .i64 5,.int .i64 an,.int .i64 am,.string ex])
 have HB0:=Lib.hid ((Below.refl B w).alloc hD.lt (acBox ⟨5,an,am,ex⟩))
 have HL1:=Lib.hid (below_box w (acBox ⟨5,an,am,ex⟩)).drew
 have HGE:=Lib.hid hD.lt
 obtain ⟨⟨c0,c1,c2⟩,f0,f1,f2⟩:=HD1.out.blk.facts3
 obtain ⟨⟨q0,q1,q2,q3⟩,_⟩:=HBA1.out.four
 clear hL hs hD hv hv' 
 go_enter Tryz.func179,Tryz.ntmps179
 go_wp2_with fail
 refine anyD_start (fun W=>W.cell? ⟨w.heap.size,3,none⟩=some (.string ex)∧W.cell? ⟨g,0,none⟩=some ve) (fun i=>[11].contains i) (by kernel_rfl) ?_
 refine anyD_t 0 (.pointer (some ⟨w.heap.size,3,none⟩)) ?_
 try simp only [Act.put,sx]
 refine anyD_l 1 (.string ex) (⟨q3,c0⟩) ?_
 try simp only [Act.put,sx]
 refine anyD_t 2 (.pointer (some ⟨g,0,none⟩)) ?_
 try simp only [Act.put,sx]
 refine anyD_t 3 (.pointer (some ⟨g,0,none⟩)) ?_
 try simp only [Act.put,sx]
 refine anyD_t 4 (.pointer (some ⟨g,0,none⟩)) ?_
 try simp only [Act.put,sx]
 refine anyD_l 5 ve (⟨q3,c0⟩) ?_
 try simp only [Act.put,sx]
 refine anyD_two (i:=6) (j:=10) rfl rfl rfl rfl (by kernel_rfl) (fun K HK=>?orderA) (fun K HK=>?orderB)
 case' orderA =>
  go_simp
  refine (HOF.out _ HL1.out).mono ?_
  rintro e w2 ⟨hb2,t,p,he,hne⟩
  have he:e=.returned (.tuple #[.agg #[.int .i64 0,.int .i64 0],.iface t p]):=he
  subst he
  have HD2:=Lib.hid (HD1.out.drew.below hb2)
  have HBA2:=Lib.hid (HBA1.out.drew.below hb2 HBA1.out.lt)
  have HB2:=Lib.hid (HB0.out.drew.trans (hb2.mono HD1.out.drew.lt))
  clear hb2
  go_simp
  refine HK.out _ _ (fun _ hS=>⟨HBA2.out.four.1.2.2.2,HD2.out.blk.facts3.1.1⟩) ?_
  clear HK K
  try simp only [Act.put,sx]
  refine anyD_t 7 (.tuple #[.agg #[.int .i64 0,.int .i64 0],.iface t p]) ?_
  try simp only [Act.put,sx]
  refine anyD_t 8 (.agg #[.int .i64 0,.int .i64 0]) ?_
  try simp only [Act.put,sx]
  refine anyD_t 9 (.iface t p) ?_
  try simp only [Act.put,sx]
  refine anyD_one (i:=10) rfl rfl (by kernel_rfl) (fun K HK=>?_)
  go_simp
  refine HK.out _ _ (fun _ hS=>⟨(HBA2.out.alloc (.cells #[.int .i64 0,.int .i64 0] 204)).four.1.2.2.2,(HD2.out.blk.alloc (.cells #[.int .i64 0,.int .i64 0] 204)).facts3.1.1⟩) ?_
  clear HK K
  try simp only [Act.put,sx]
  refine anyD_one (i:=11) rfl rfl (by kernel_rfl) (fun K HK=>?_)
  go_simp
  refine HK.out _ _ (fun h=>absurd h (by decide)) ?_
  clear HK K
  try simp only [Act.put,sx]
  refine anyD_t 12 (.iface t p) ?_
  try simp only [Act.put,sx]
  refine anyD_done (by kernel_rfl) ?_
  have HVF:=Lib.hid (Blk.new w2 204 #[.int .i64 0,.int .i64 0])
  have HDF:=Lib.hid (HD2.out.below (below_box w2 (.cells #[.int .i64 0,.int .i64 0] 204)))
  have HBF:=Lib.hid (HB2.out.alloc HD2.out.lt (.cells #[.int .i64 0,.int .i64 0] 204))
  have HAF:=Lib.hid (HBA2.out.alloc (.cells #[.int .i64 0,.int .i64 0] 204))
  obtain ⟨⟨y0,y1⟩,_⟩:=HVF.out.facts2
  obtain ⟨⟨z0,z1,z2,z3⟩,_⟩:=HAF.out.four
  go_wp2_with fail
  go_ret
  exact .of rfl rfl HBF.out HDF.out
 case' orderB =>
  go_simp
  refine HK.out _ _ (fun _ hS=>⟨HBA1.out.drew.alloc (.cells #[.int .i64 0,.int .i64 0] 204) |>.four.1.2.2.2,HD1.out.drew.blk.alloc (.cells #[.int .i64 0,.int .i64 0] 204) |>.facts3.1.1⟩) ?_
  clear HK K
  try simp only [Act.put,sx]
  refine anyD_one (i:=6) rfl rfl (by kernel_rfl) (fun K HK=>?_)
  go_simp
  refine (HOF.out _ (HL1.out.alloc (by simp) (.cells #[.int .i64 0,.int .i64 0] 204))).mono ?_
  rintro e w2 ⟨hb2,t,p,he,hne⟩
  have he:e=.returned (.tuple #[.agg #[.int .i64 0,.int .i64 0],.iface t p]):=he
  subst he
  have HV3:=Lib.hid ((Blk.new_at (w.alloc (acBox ⟨5,an,am,ex⟩)) 204 #[.int .i64 0,.int .i64 0] (w.heap.size+1) (by simp)).drew.below hb2 (by simp))
  have HD3:=Lib.hid ((HD1.out.below (below_box _ (.cells #[.int .i64 0,.int .i64 0] 204))).drew.below hb2)
  have HBA3:=Lib.hid ((HBA1.out.alloc (.cells #[.int .i64 0,.int .i64 0] 204)).drew.below hb2 (HBA1.out.alloc (.cells #[.int .i64 0,.int .i64 0] 204)).lt)
  have HB3:=Lib.hid ((HB0.out.alloc HD1.out.lt (.cells #[.int .i64 0,.int .i64 0] 204)).drew.trans (hb2.mono (HD1.out.below (below_box _ (.cells #[.int .i64 0,.int .i64 0] 204))).drew.lt))
  clear hb2
  go_simp
  refine HK.out _ _ (fun _ hS=>⟨HBA3.out.four.1.2.2.2,HD3.out.blk.facts3.1.1⟩) ?_
  clear HK K
  try simp only [Act.put,sx]
  refine anyD_t 7 (.tuple #[.agg #[.int .i64 0,.int .i64 0],.iface t p]) ?_
  try simp only [Act.put,sx]
  refine anyD_t 8 (.agg #[.int .i64 0,.int .i64 0]) ?_
  try simp only [Act.put,sx]
  refine anyD_t 9 (.iface t p) ?_
  try simp only [Act.put,sx]
  obtain ⟨⟨v0,v1⟩,v2,v3⟩:=HV3.out.facts2
  refine anyD_one (i:=11) rfl rfl (by kernel_rfl) (fun K HK=>?_)
  go_simp
  refine HK.out _ _ (fun h=>absurd h (by decide)) ?_
  clear HK K
  try simp only [Act.put,sx]
  refine anyD_t 12 (.iface t p) ?_
  try simp only [Act.put,sx]
  refine anyD_done (by kernel_rfl) ?_
  have HVF:=Lib.hid (HV3.out.set2 (.int .i64 0) (.int .i64 0))
  have HDF:=Lib.hid ((HD3.out.apart2 HV3.out 0 (.int .i64 0) (by decide) (by decide) (by decide) (by decide)).apart2 (HV3.out.set_ 0 _) 1 (.int .i64 0) (by decide) (by decide) (by decide) (by decide))
  have HBF:=Lib.hid ((HB3.out.setCell (p:=⟨(w.heap.size+1),0,none⟩) (Nat.le_succ_of_le HGE.out) (.int .i64 0)).setCell (p:=⟨(w.heap.size+1),1,none⟩) (Nat.le_succ_of_le HGE.out) (.int .i64 0))
  have HAF:=Lib.hid (blk_apart (blk_apart HBA3.out HV3.out (by decide) 0 (.int .i64 0)) (HV3.out.set_ 0 _) (by decide) 1 (.int .i64 0))
  obtain ⟨⟨y0,y1⟩,_⟩:=HVF.out.facts2
  obtain ⟨⟨z0,z1,z2,z3⟩,_⟩:=HAF.out.four
  go_wp2_with fail
  go_ret
  exact .of rfl rfl HBF.out HDF.out
theorem do_any (B g:Nat) (ve vo vi:Value) (X:Ds) (a:Ac) (w:World) (hL:Laid w) (hs:a.expr.size≤1000000) (hD:DsAt B g w ve vo vi X) (hel:X.env.length≤1000) (hef:X.Fit) (hol:X.out.length≤1000) (hil:X.ins.length≤1000) :
 Calls Tryz.prog 179 #[.pointer (some ⟨g,0,none⟩),acVal a] w (DidPost B g (doA a X).isSome ((doA a X).getD X) w):=by
 obtain ⟨kd,an,am,ex⟩:=a
 unfold doA
 simp only at hs ⊢
 by_cases h2:kd=2
 · subst h2
   exact do_raise B g ve vo vi X an am ex w hD hil
 · rw [if_neg h2]
   by_cases h4:kd=4
   · subst h4
     exact do_cancel B g ve vo vi X an am ex w hD hol
   · rw [if_neg h4]
     by_cases hk:kd=1 ∨ kd=3 ∨ kd=5
     · rw [if_pos hk]
       cases hv:valA ex X.env with
       | bad c =>
        rcases hk with rfl | rfl | rfl
        · exact do_val1_bad B g ve vo vi X an am ex w hL hs hD hel hef hol c hv
        · exact do_val3_bad B g ve vo vi X an am ex w hL hs hD hel hef hol c hv
        · exact do_val5_bad B g ve vo vi X an am ex w hL hs hD hel hef hol c hv
       | ok k n =>
        unfold doV
        simp only
        by_cases h1:k=1
        · subst h1
          rcases hk with rfl | rfl | rfl
          · exact do_val1_ok B g ve vo vi X an am ex w hL hs hD hel hef hol n hv
          · exact do_val3_ok B g ve vo vi X an am ex w hL hs hD hel hef hol n hv
          · exact do_val5_ok B g ve vo vi X an am ex w hL hs hD hel hef hol n hv
        · rw [if_neg h1]
          rcases hk with rfl | rfl | rfl
          · exact do_val1_two B g ve vo vi X an am ex w hL hs hD hel hef hol k n h1 hv
          · exact do_val3_two B g ve vo vi X an am ex w hL hs hD hel hef hol k n h1 hv
          · exact do_val5_two B g ve vo vi X an am ex w hL hs hD hel hef hol k n h1 hv
     · rw [if_neg hk]
       exact do_other B g ve vo vi X ⟨kd,an,am,ex⟩ w hD (fun h=>hk (.inl h)) h2 (fun h=>hk (.inr (.inl h))) h4 (fun h=>hk (.inr (.inr h)))
end Go.Proofs.YtmhkpjcdkjnlnaaGreatDoor
