/- The contracts of micro's bit, hasFinal, areDone, isDone: when a state is done. -/
import Derived.Test.YtgofpbdbeegoeaaGreatDoorFWImem
import Derived.Lib.AppendZerosOnto
namespace Go.Proofs.YtgofpbdbeegoeaaGreatDoor
open Go.ChangeShapes Go.WideShapes Go.ChangeAt Go.RowKit
set_option linter.unusedVariables false

theorem bitM_any (k:Nat) (hk:k≤31) (w:World):Calls Tryz.prog 90 #[.int .i64 (k:Int)] w fun e w'=>e=.returned (.int .u32 ((2 ^ k:Nat):Int))∧w=w':=by
 have h0:decide ((k:Int) < 0)=false:=by simp
 go_enter Tryz.func90,Tryz.ntmps90
 go_wp2_with fail
 go_ret
 refine ⟨ret_int ?_,rfl⟩
 have h1:(2:Nat) ^ k≤2 ^ 31:=Nat.pow_le_pow_right (by decide) hk
 have h2:((2:Int) ^ k)=((2 ^ k:Nat):Int):=by simp
 rw [show (2:Nat) ^ 31=2147483648 by decide] at h1
 rw [h2]
 generalize 2 ^ k=m at *
 omega
theorem any_succ (P:Nat→Bool) (k:Nat):(List.range (k+1)).any P=((List.range k).any P || P k):=by rw [List.range_succ,List.any_append]; simp
theorem all_succ (P:Nat→Bool) (k:Nat):(List.range (k+1)).all P=((List.range k).all P && P k):=by rw [List.range_succ,List.all_append]; simp
theorem any_false {P:Nat→Bool} {k:Nat} (h:(List.range k).any P=false) (hp:P k=false):(List.range (k+1)).any P=false:=by rw [any_succ,h,hp]; rfl
theorem any_true {P:Nat→Bool} {k n:Nat} (h:k < n) (hp:P k=true):(List.range n).any P=true:=List.any_eq_true.2 ⟨k,List.mem_range.2 h,hp⟩
theorem all_true {P:Nat→Bool} {k:Nat} (h:(List.range k).all P=true) (hp:P k=true):(List.range (k+1)).all P=true:=by rw [all_succ,h,hp]; rfl
theorem all_false {P:Nat→Bool} {k n:Nat} (h:k < n) (hp:P k=false):(List.range n).all P=false:=List.all_eq_false.2 ⟨k,List.mem_range.2 h,by rw [hp]; simp⟩
theorem kids_any_nat (S:List St) (s:Int) (f:Int→Bool):(kids S s).any f=(List.range S.length).any fun k=>kidB S s k && f (k:Int):=by
 unfold kids kidsU
 rw [List.any_map,List.any_filter]
 rfl
theorem kids_all_nat (S:List St) (s:Int) (f:Int→Bool):(kids S s).all f=(List.range S.length).all fun k=>!kidB S s k || f (k:Int):=by
 unfold kids kidsU
 rw [List.all_map,List.all_filter]
 rfl
section
variable {w0:World} {M:Nat→Option Obj} {t g:Nat} {vs vt:Value} {C:Ch} {w:World} {vh ve vi vo:Value} {X:Se}
set_option maxHeartbeats 4000000 in
set_option maxRecDepth 100000 in
theorem hasFinal_any (hF:Fx w0 t vs vt C) (hS:SeAt w0 M t g vs vt C w vh ve vi vo X) (Q:Nat→Bool) :
 Calls Tryz.prog 166 #[.pointer (some ⟨g,0,none⟩),.int .u32 ((bset Q C.sts.length:Nat):Int)] w fun e w'=>e=.returned (.bool ((List.range C.sts.length).any fun k=>Q k && decide ((stAt C.sts (k:Int)).kind=4)))∧Below w.heap.size w w':=by
 have hlen:=hF.tame.len
 obtain ⟨sA,scap,tA,tcap,rfl,rfl⟩:=hF.has.slices
 have HS:=Lib.hid hS
 have HC:=Lib.hid hF.has
 obtain ⟨⟨x0,x1,x2,x3,x4⟩,-⟩:=hS.cells
 clear hF hS
 go_enter Tryz.func166,Tryz.ntmps166
 go_wp2_with fail
 go_loopw [13] (fun i wr=>∃ k:Nat,k≤C.sts.length∧i=.int .i64 (k:Int)∧Below w.heap.size w wr∧Hid ((List.range k).any (fun k=>Q k && decide ((stAt C.sts (k:Int)).kind=4))=false)) (fun i _=>C.sts.length - (intOf i).toNat)
 case atStart=>exact ⟨0,Nat.zero_le _,rfl,Below.refl _ _,Lib.hid rfl⟩
 case round =>
  obtain ⟨k,hk,rfl,hb,HO⟩:=hrel
  obtain ⟨wo,rfl⟩:∃ wo:World,wo=wr:=⟨_,rfl⟩
  clear x0 x1 x2 x3 x4
  by_cases hlt:k < C.sts.length
  · obtain ⟨b,o,cap',ui,ue,ux,hsl,_,hbl,hst,hhas⟩:=HC.out.st hlt
    injection hsl with e1 e2 e3
    subst e1
    obtain ⟨c0,c1,c2,c3,c4⟩:=hst.below (HS.out.below.trans (hb.mono HS.out.lt)) hbl
    obtain ⟨iA,icap,eA,ecap,xA,xcap,rfl,rfl,rfl⟩:=hhas.slices
    have hne:=(and_test Q C.sts.length k (by omega) hlt).2
    have HNO:Hid ((Q k && decide ((stAt C.sts (k:Int)).kind=4))=false→(List.range (k+1)).any (fun k=>Q k && decide ((stAt C.sts (k:Int)).kind=4))=false):=Lib.hid (fun h=>any_false HO.out h)
    have HYES:Hid ((Q k && decide ((stAt C.sts (k:Int)).kind=4))=true→(List.range C.sts.length).any (fun k=>Q k && decide ((stAt C.sts (k:Int)).kind=4))=true):=Lib.hid (fun h=>any_true hlt h)
    have HB:=Lib.hid hb
    have HBN:=Lib.hid (hb.alloc hb.size (stBox (stAt C.sts (k:Int)).kind (stAt C.sts (k:Int)).par (.slice iA (stAt C.sts (k:Int)).ini.length icap) (.slice eA (stAt C.sts (k:Int)).ent.length ecap) (.slice xA (stAt C.sts (k:Int)).exi.length xcap)))
    generalize (stAt C.sts (k:Int)).kind=K at *
    generalize (stAt C.sts (k:Int)).par=P at *
    generalize (stAt C.sts (k:Int)).ini.length=il at *
    generalize (stAt C.sts (k:Int)).ent.length=el at *
    generalize (stAt C.sts (k:Int)).exi.length=xl at *
    clear hst hhas e2 e3 hb
    cases hq:Q k with
    | false =>
     rw [hq] at hne HNO
     clear hq HYES
     go_wp2_with fail
     refine (bitM_any k (by omega) _).mono ?_
     rintro e w2 ⟨rfl,rfl⟩
     go_wp2_with fail
     go_roundw
     case rel=>exact ⟨k+1,by omega,by go_num,HBN.out,Lib.hid (HNO.out rfl)⟩
     case measure=>simp [intOf]; omega
    | true =>
     rw [hq] at hne HNO HYES
     clear hq
     by_cases hK:K=4
     · subst hK
       go_wp2_with fail
       refine (bitM_any k (by omega) _).mono ?_
       rintro e w2 ⟨rfl,rfl⟩
       go_wp2_with fail
       go_ret
       exact ⟨by rw [HYES.out rfl]; rfl,HBN.out⟩
     · have hK2:(K == 4)=false:=by simpa using hK
       have HK4:=Lib.hid (HNO.out (by simpa using hK))
       clear hK HYES HNO
       go_wp2_with fail
       refine (bitM_any k (by omega) _).mono ?_
       rintro e w2 ⟨rfl,rfl⟩
       go_wp2_with fail
       go_roundw
       case rel=>exact ⟨k+1,by omega,by go_num,HBN.out,HK4⟩
       case measure=>simp [intOf]; omega
  · obtain rfl:k=C.sts.length:=by omega
    have HB:=Lib.hid hb
    go_wp2_with fail
    go_ret
    exact ⟨by rw [HO.out]; rfl,HB.out⟩
def DoneOK (w0:World) (M:Nat→Option Obj) (t g:Nat) (vs vt:Value) (C:Ch) (vh ve vi vo:Value) (X:Se) (f:Nat):Prop :=
 ∀ (s:Int) (w:World),isSt C.sts s=true→C.sts.length < f+s.toNat→SeAt w0 M t g vs vt C w vh ve vi vo X →
  Calls Tryz.prog 138 #[.pointer (some ⟨g,0,none⟩),.int .i64 s] w fun e w'=>e=.returned (.bool (doneF C.sts X.a f s))∧Below w.heap.size w w'
set_option maxHeartbeats 4000000 in
set_option maxRecDepth 100000 in
theorem areDone_any {f:Nat} (hF:Fx w0 t vs vt C) (hD:DoneOK w0 M t g vs vt C vh ve vi vo X f) (hS:SeAt w0 M t g vs vt C w vh ve vi vo X) (Q:Nat→Bool) (hQ:∀ k,k < C.sts.length→Q k=true→C.sts.length < f+k) :
 Calls Tryz.prog 168 #[.pointer (some ⟨g,0,none⟩),.int .u32 ((bset Q C.sts.length:Nat):Int)] w fun e w'=>e=.returned (.bool ((List.range C.sts.length).all fun k=>!Q k || doneF C.sts X.a f (k:Int)))∧Below w.heap.size w w':=by
 have hlen:=hF.tame.len
 obtain ⟨sA,scap,tA,tcap,rfl,rfl⟩:=hF.has.slices
 have HS:=Lib.hid hS
 have HD:=Lib.hid hD
 have HQ:=Lib.hid hQ
 obtain ⟨⟨x0,x1,x2,x3,x4⟩,-⟩:=hS.cells
 clear hF hS hD hQ
 go_enter Tryz.func168,Tryz.ntmps168
 go_wp2_with fail
 go_loopw [12] (fun i wr=>∃ k:Nat,k≤C.sts.length∧i=.int .i64 (k:Int)∧Below w.heap.size w wr∧Hid ((List.range k).all (fun k=>!Q k || doneF C.sts X.a f (k:Int))=true)) (fun i _=>C.sts.length - (intOf i).toNat)
 case atStart=>exact ⟨0,Nat.zero_le _,rfl,Below.refl _ _,Lib.hid rfl⟩
 case round =>
  obtain ⟨k,hk,rfl,hb,HO⟩:=hrel
  obtain ⟨wo,rfl⟩:∃ wo:World,wo=wr:=⟨_,rfl⟩
  clear x0 x1 x2 x3 x4
  have HB:=Lib.hid hb
  clear hb
  by_cases hlt:k < C.sts.length
  · have hne:=(and_test Q C.sts.length k (by omega) hlt).2
    have HYES:Hid ((!Q k || doneF C.sts X.a f (k:Int))=true→(List.range (k+1)).all (fun k=>!Q k || doneF C.sts X.a f (k:Int))=true):=Lib.hid (fun h=>all_true HO.out h)
    have HNO:Hid ((!Q k || doneF C.sts X.a f (k:Int))=false→(List.range C.sts.length).all (fun k=>!Q k || doneF C.sts X.a f (k:Int))=false):=Lib.hid (fun h=>all_false hlt h)
    cases hq:Q k with
    | false =>
     rw [hq] at hne HYES
     clear hq HNO
     go_wp2_with fail
     refine (bitM_any k (by omega) _).mono ?_
     rintro e w2 ⟨rfl,rfl⟩
     go_wp2_with fail
     go_roundw
     case rel=>exact ⟨k+1,by omega,by go_num,HB.out,Lib.hid (HYES.out rfl)⟩
     case measure=>simp [intOf]; omega
    | true =>
     have HDK:=Lib.hid (HD.out (k:Int) wo (isSt_of hlt) (by have:=HQ.out k hlt hq; omega) (HS.out.after HB.out))
     rw [hq] at hne HYES HNO
     clear hq
     cases hd:doneF C.sts X.a f (k:Int) with
     | true =>
      rw [hd] at HDK HYES
      clear hd HNO
      go_wp2_with fail
      refine (bitM_any k (by omega) _).mono ?_
      rintro e w2 ⟨rfl,rfl⟩
      go_wp2_with fail
      refine HDK.out.mono ?_
      rintro e w2 ⟨rfl,hb2⟩
      have HB2:=Lib.hid (HB.out.trans (hb2.mono HB.out.size))
      clear hb2
      go_wp2_with fail
      go_roundw
      case rel=>exact ⟨k+1,by omega,by go_num,HB2.out,Lib.hid (HYES.out rfl)⟩
      case measure=>simp [intOf]; omega
     | false =>
      rw [hd] at HDK HNO
      clear hd HYES
      go_wp2_with fail
      refine (bitM_any k (by omega) _).mono ?_
      rintro e w2 ⟨rfl,rfl⟩
      go_wp2_with fail
      refine HDK.out.mono ?_
      rintro e w2 ⟨rfl,hb2⟩
      have HB2:=Lib.hid (HB.out.trans (hb2.mono HB.out.size))
      clear hb2
      go_wp2_with fail
      go_ret
      exact ⟨by rw [HNO.out rfl]; rfl,HB2.out⟩
  · obtain rfl:k=C.sts.length:=by omega
    go_wp2_with fail
    go_ret
    exact ⟨by rw [HO.out]; rfl,HB.out⟩
set_option maxHeartbeats 4000000 in
set_option maxRecDepth 100000 in
theorem isDone_ok (hF:Fx w0 t vs vt C):∀ f:Nat,DoneOK w0 M t g vs vt C vh ve vi vo X f
 | 0=>fun s w hs hf hS=>by have:=isSt_iff.1 hs; omega
 | f+1=>fun s w hs hf hS=>by
  have ih:=isDone_ok hF f
  have hta:=hF.tame
  have hlen:=hta.len
  have hs0:=(isSt_iff.1 hs).1
  have HKD:=Lib.hid (kindT_any t s C w (hF.tree.below hS.below) (by omega))
  have hkt:kindT C.sts s=(stAt C.sts s).kind:=by unfold kindT; rw [if_pos hs]
  rw [hkt] at HKD
  have HKS:=Lib.hid (tkids_any t s C w (hF.tree.below hS.below) (by omega) hs)
  have HKD2:=Lib.hid (tkids_any t s C w.drew (hF.tree.below hS.drew.below) (by omega) hs)
  have HS:=Lib.hid hS
  have HF:=Lib.hid hF
  obtain ⟨⟨x0,x1,x2,x3,x4⟩,-⟩:=hS.cells
  by_cases h2:(stAt C.sts s).kind=2
  · have HR:Hid (doneF C.sts X.a (f+1) s=(List.range C.sts.length).any fun k=>(kidB C.sts s k && X.a k) && decide ((stAt C.sts (k:Int)).kind=4)):=Lib.hid (by
     rw [doneF,if_pos h2,kids_any_nat]
     congr 1
     funext k
     rw [hasS_nat,Bool.and_assoc])
    have hand:bits .and .u32 ((bset (kidB C.sts s) C.sts.length:Nat):Int) ((bset X.a C.sts.length:Nat):Int)=((bset (fun k=>kidB C.sts s k && X.a k) C.sts.length:Nat):Int):=by
     rw [(bits_nat .u32 32 (by decide) wrap_u32 _ _ (bset_u32 _ (by omega)) (bset_u32 _ (by omega))).1,bset_and]
    have HAND:=Lib.hid hand
    have HHF:=Lib.hid (fun (W:World) (h:Below w.heap.size w W)=>hasFinal_any HF.out (HS.out.after h) (fun k=>kidB C.sts s k && X.a k))
    rw [h2] at HKD
    clear h2 hF hS hkt ih hand
    go_enter Tryz.func138,Tryz.ntmps138
    go_wp2_with fail
    refine HKD.out.mono ?_
    rintro e w1 ⟨rfl,rfl⟩
    go_wp2_with fail
    refine anyD_start (fun W=>W.cell? ⟨g,0,none⟩=some (.pointer (some ⟨t,0,none⟩))∧W.cell? ⟨g,4,none⟩=some (.int .u32 ((bset X.a C.sts.length:Nat):Int))) (fun i=>[].contains i) (by kernel_rfl) ?_
    try simp only [Act.put,sx]
    refine anyD_t 0 (.pointer (some ⟨g,0,none⟩)) ?_
    try simp only [Act.put,sx]
    refine anyD_t 1 (.pointer (some ⟨g,0,none⟩)) ?_
    try simp only [Act.put,sx]
    refine anyD_t 2 (.pointer (some ⟨g,0,none⟩)) ?_
    try simp only [Act.put,sx]
    refine anyD_t 3 (.pointer (some ⟨g,0,none⟩)) ?_
    try simp only [Act.put,sx]
    refine anyD_l 4 (.pointer (some ⟨t,0,none⟩)) (⟨x0,x4⟩) ?_
    try simp only [Act.put,sx]
    refine anyD_t 5 (.int .i64 s) ?_
    try simp only [Act.put,sx]
    refine anyD_t 7 (.pointer (some ⟨g,0,none⟩)) ?_
    try simp only [Act.put,sx]
    refine anyD_t 8 (.pointer (some ⟨g,0,none⟩)) ?_
    try simp only [Act.put,sx]
    refine anyD_t 9 (.pointer (some ⟨g,4,none⟩)) ?_
    try simp only [Act.put,sx]
    refine anyD_t 10 (.pointer (some ⟨g,4,none⟩)) ?_
    try simp only [Act.put,sx]
    refine anyD_l 11 (.int .u32 ((bset X.a C.sts.length:Nat):Int)) (⟨x0,x4⟩) ?_
    try simp only [Act.put,sx]
    refine anyD_one (i:=6) rfl rfl (by kernel_rfl) (fun K HK=>?_)
    go_simp
    refine HKD2.out.mono ?_
    rintro e w2 ⟨rfl,hb2⟩
    have HB2:Hid (Below w.heap.size w w2):=Lib.hid ((Below.refl _ _).drew.trans hb2)
    have HS2:=Lib.hid (HS.out.drew.after hb2)
    clear hb2
    go_simp
    refine HK.out _ _ (fun _ hS=>⟨HS2.out.cells.1.1,HS2.out.cells.1.2.2.2.2⟩) ?_
    clear HK K
    try simp only [Act.put,sx]
    refine anyD_one (i:=12) rfl rfl (by kernel_rfl) (fun K HK=>?_)
    go_simp
    rw [HAND.out]
    refine HK.out _ _ (fun _ hS=>⟨HS2.out.cells.1.1,HS2.out.cells.1.2.2.2.2⟩) ?_
    clear HK K
    try simp only [Act.put,sx]
    refine anyD_one (i:=13) rfl rfl (by kernel_rfl) (fun K HK=>?_)
    go_simp
    refine (HHF.out _ HB2.out).mono ?_
    rintro e w3 ⟨rfl,hb3⟩
    have HB3:=Lib.hid (HB2.out.trans (hb3.mono HB2.out.size))
    have HS3:=Lib.hid (HS2.out.after hb3)
    clear hb3
    go_simp
    refine HK.out _ _ (fun _ hS=>⟨HS3.out.cells.1.1,HS3.out.cells.1.2.2.2.2⟩) ?_
    clear HK K
    try simp only [Act.put,sx]
    refine anyD_one (i:=14) rfl rfl (by kernel_rfl) (fun K HK=>?_)
    go_simp
    refine HK.out _ _ (fun _ hS=>⟨HS3.out.cells.1.1,HS3.out.cells.1.2.2.2.2⟩) ?_
    clear HK K
    try simp only [Act.put,sx]
    refine anyD_done (by kernel_rfl) ?_
    go_wp2_with fail
    go_ret
    exact ⟨by rw [HR.out]; rfl,HB3.out⟩
  · by_cases h3:(stAt C.sts s).kind=3
    · have HR:Hid (doneF C.sts X.a (f+1) s=(List.range C.sts.length).all fun k=>!kidB C.sts s k || doneF C.sts X.a f (k:Int)):=Lib.hid (by rw [doneF,if_neg h2,if_pos h3,kids_all_nat])
      have HAD:=Lib.hid (fun (W:World) (h:Below w.heap.size w W)=>areDone_any HF.out ih (HS.out.after h) (kidB C.sts s) (fun k hk hkid=>by
       have hm:(k:Int) ∈ kids C.sts s:=by
        unfold kids kidsU
        exact List.mem_map.2 ⟨k,List.mem_filter.2 ⟨List.mem_range.2 hk,hkid⟩,rfl⟩
       have:=(hta.kid_up hs0 hm).2.2.2.1
       omega))
      rw [h3] at HKD
      clear h2 h3 hF hS hkt ih
      go_enter Tryz.func138,Tryz.ntmps138
      go_wp2_with fail
      refine HKD.out.mono ?_
      rintro e w1 ⟨rfl,rfl⟩
      go_wp2_with fail
      refine HKS.out.mono ?_
      rintro e w2 ⟨rfl,hb2⟩
      have HB2:=Lib.hid hb2
      clear hb2
      go_wp2_with fail
      refine (HAD.out _ HB2.out).mono ?_
      rintro e w3 ⟨rfl,hb3⟩
      have HB3:=Lib.hid (HB2.out.trans (hb3.mono HB2.out.size))
      clear hb3
      go_wp2_with fail
      go_ret
      exact ⟨by rw [HR.out]; rfl,HB3.out⟩
    · have HR:Hid (doneF C.sts X.a (f+1) s=false):=Lib.hid (by rw [doneF,if_neg h2,if_neg h3])
      have h2b:((stAt C.sts s).kind == 2)=false:=by simpa using h2
      have h3b:((stAt C.sts s).kind == 3)=false:=by simpa using h3
      generalize (stAt C.sts s).kind=K at *
      clear h2 h3 hF hS hkt ih
      go_enter Tryz.func138,Tryz.ntmps138
      go_wp2_with fail
      refine HKD.out.mono ?_
      rintro e w1 ⟨rfl,rfl⟩
      go_wp2_with fail
      go_ret
      exact ⟨by rw [HR.out]; rfl,Below.refl _ _⟩
end

theorem size_zeros (z:Array Value) (m:Nat):(Builtin.zeroCells z m).toList.length=m * z.size:=by rw [Array.length_toList,size_zeroCells]
theorem own_new {w:World} {base cap n:Nat} {e:TypeId} {size:Nat} {xs:List Value} {rest:Array Value} (hb:base≤w.heap.size) (hx:xs.length=n * size) (hr:rest.size=(cap - n) * size) (hnc:n≤cap) (hcm:cap≤maxLen) :
 (w.drew.alloc (.cells (xs.toArray ++ rest) e)).ownsRow base e size (.slice (some ⟨w.heap.size,0,none⟩) n cap) n xs:=by
 refine ⟨hx,.inr ⟨w.heap.size,cap,_,rfl,hb,heap_alloc_new w.drew _,hnc,hcm,?_,?_⟩⟩
 · rw [Array.size_append,List.size_toArray,hx,hr,← Nat.add_mul]
   congr 1
   omega
 · rw [Array.toList_append,← hx]
   exact List.take_left
theorem own_grown_new (w:World) (o:Obj) (row:Option Nat):w.grownBy (w.drew.alloc o) row:=⟨rfl,rfl,rfl,by simp,fun k hk _=>heap_alloc_old w.drew o hk⟩
theorem run_append_zeros {P:Program} (w:World) (base:Nat) (t tn ty e:TypeId) (i:TypeInfo) (z:Value) (kq kn:IntKind) (size bytes:Nat) (ht:P.underlying t=some (.slice e)) (htn:P.underlying tn=some (.int kn)) (hi:P.info? e=some i) (hz:i.zero=some z)
 (hsize:i.size=size) (hby:i.bytes=bytes) (hzs:z.cells.size=size) (hsz:0 < size) (hone:∀ m,∀ u ∈ (Builtin.zeroCells z.cells m).toList,u.oneCell'=true)
 (v:Value) (n:Nat) (xs:List Value) (hown:w.ownsRow base e size v n xs) (m:Nat) (h63:n+m≤maxLen) (hbytes:(n+m) * bytes≤140737488355328) (hbase:base≤w.heap.size) :
 ∃ v' w',(Builtin.append_ #[t,tn] ty #[v,.int kq (m:Int)]).run P w=.ok v' w'∧w'.ownsRow base e size v' (n+m) (xs ++ (Builtin.zeroCells z.cells m).toList)∧w.grownBy w' v.ownBlock∧(v'.ownBlock=v.ownBlock ∨ v'.ownBlock=some w.heap.size):=by
 subst hsize
 subst hby
 have h64:n+m≤9223372036854775807:=by have:=h63; simp only [maxLen] at this; omega
 have hzl:=size_zeros z.cells m
 rw [hzs] at hzl
 have hlen:(xs ++ (Builtin.zeroCells z.cells m).toList).length=(n+m) * i.size:=by rw [List.length_append,hown.1,hzl,Nat.add_mul]
 have hle:m * i.bytes≤(n+m) * i.bytes:=Nat.mul_le_mul_right _ (by omega)
 have hw:IntKind.i64.wrap (m:Int)=m:=by rw [IntKind.wrap_i64]; omega
 by_cases hm:m=0
 · subst hm
   have hzn:(Builtin.zeroCells z.cells 0).toList=[]:=List.eq_nil_of_length_eq_zero (by rw [hzl]; omega)
   rw [hzn,List.append_nil]
   refine ⟨v,w,?_,by simpa using hown,⟨rfl,rfl,rfl,Nat.le_refl _,fun _ _ _=>rfl⟩,.inl rfl⟩
   rcases hown.2 with ⟨rfl,rfl⟩ | ⟨g,cap,cur,rfl,_,_,hnc,_⟩
   · simp [Builtin.append_,run_underlying ht,run_underlying htn,sizeOf,typeInfo,hi,asInt,asIntOf,IntKind.wrap,go_sem]
   · simp [Builtin.append_,run_underlying ht,run_underlying htn,sizeOf,typeInfo,hi,asInt,asIntOf,IntKind.wrap,hnc,storeCells,go_sem]
 · rcases hown.2 with ⟨rfl,rfl⟩ | ⟨g,cap,cur,rfl,hbg,hg,hnc,hcm,hcs,htake⟩
   · have hx:xs=[]:=List.eq_nil_of_length_eq_zero (by simpa using hown.1)
     subst hx
     have hr:=Lib.run_append_nil_zeros (P:=P) w t tn ty e i z kq kn ht htn hi hz m (by omega) hsz (by omega) (by omega)
     refine ⟨_,_,hr,?_,own_grown_new w _ _,.inr rfl⟩
     have:=own_new (w:=w) (base:=base) (e:=e) (size:=i.size) (n:=m) (cap:=grownCap w m 0 e) (xs:=(Builtin.zeroCells z.cells m).toList) (rest:=Builtin.zeroCells z.cells (grownCap w m 0 e - m)) hbase hzl (by rw [size_zeroCells,hzs]) (grownCap_ge w m 0 e) (grownCap_le_maxLen w m 0 e (by omega))
     simpa using this
   · by_cases hroom:n+m≤cap
     · have hfit:n * i.size+(Builtin.zeroCells z.cells m).toList.length≤cur.size:=by rw [hzl,hcs,← Nat.add_mul]; exact Nat.mul_le_mul_right _ hroom
       have hst:=run_storeCells_at P g (n * i.size) e (Builtin.zeroCells z.cells m).toList 0 cur w hg (by simpa using hfit) (hone m)
       simp only [Nat.add_zero] at hst
       have hns:¬ (m * i.size=0):=Nat.mul_ne_zero hm (by omega)
       have hneg:¬ ((m:Int) < 0):=by omega
       have hb2:¬ (281474976710656 < (m:Int) * (i.bytes:Int)):=by
        rw [← Int.natCast_mul]
        omega
       have hr:(Builtin.append_ #[t,tn] ty #[.slice (some ⟨g,0,none⟩) n cap,.int kq (m:Int)]).run P w=.ok (.slice (some ⟨g,0,none⟩) (n+m) cap) (w.setRow g (cur.toList.take (n * i.size) ++ (Builtin.zeroCells z.cells m).toList ++ cur.toList.drop (n * i.size+(Builtin.zeroCells z.cells m).toList.length)).toArray):=by
        simp [Builtin.append_,run_underlying ht,run_underlying htn,sizeOf,typeInfo,zeroValue,hi,hz,asInt,asIntOf,hw,hneg,hns,hb2,hroom,Addr.add_lit]
        have hst':=hst
        simp at hst'
        rw [hst']
        rfl
       refine ⟨_,_,hr,⟨hlen,.inr ⟨g,cap,_,rfl,hbg,setRow_heap w g cur _ e _ hg,hroom,hcm,?_,?_⟩⟩,⟨rfl,rfl,rfl,by simp,fun k _ hk=>setRow_other w g k _ (fun e=>hk (by simp [Value.ownBlock,e]))⟩,.inl rfl⟩
       · simp only [List.size_toArray,List.length_append,List.length_take,List.length_drop,Array.length_toList] at hfit ⊢
         omega
       · rw [htake,← hlen]
         exact List.take_left
     · have holds:∀ j u,xs[j]?=some u→w.drew.cell? ((⟨g,0,none⟩:Addr).add j)=some u:=hown.cells (g:=g) rfl
       have hf:=run_firstCells_some (P:=P) w.drew i.size n ⟨g,0,none⟩ n cap xs hown.1 holds
       have hr:=Lib.run_append_grow_zeros (P:=P) w t tn ty e i z kq kn ht htn hi hz (some ⟨g,0,none⟩) n cap xs hf m (by omega) hsz (by omega) (by omega) (by omega) (growslice_fits (by omega) hbytes)
       refine ⟨_,_,hr,?_,own_grown_new w _ _,.inr rfl⟩
       have:=own_new (w:=w) (base:=base) (e:=e) (size:=i.size) (n:=n+m) (cap:=grownCap w (n+m) cap e) (xs:=xs ++ (Builtin.zeroCells z.cells m).toList) (rest:=Builtin.zeroCells z.cells (grownCap w (n+m) cap e - (n+m))) hbase hlen (by rw [size_zeroCells,hzs]) (grownCap_ge w (n+m) cap e) (grownCap_le_maxLen w (n+m) cap e h63)
       have he:(xs ++ (Builtin.zeroCells z.cells m).toList).toArray ++ Builtin.zeroCells z.cells (grownCap w (n+m) cap e - (n+m))=xs.toArray ++ Builtin.zeroCells z.cells m ++ Builtin.zeroCells z.cells (grownCap w (n+m) cap e - (n+m)):=by
        apply Array.ext'
        simp
       rw [he] at this
       exact this
theorem wpList_append_zeros {P:Program} {w:World} {ops:Array Oper} {rest:List Oper} {o:Oper} {a:Act} {Q:Exit→Act→World→Prop} (hgd:o.guard=none) (s x:Operand) (t tn:TypeId)
 (ho:o.op=.call { callee:=.builtin .append,args:=#[s,x],argTypes:=#[t,tn] })
 (base:Nat) (e:TypeId) (i:TypeInfo) (z:Value) (kq kn:IntKind) (size bytes:Nat) (ht:P.underlying t=some (.slice e)) (htn:P.underlying tn=some (.int kn)) (hi:P.info? e=some i) (hz:i.zero=some z)
 (hsize:i.size=size) (hby:i.bytes=bytes) (hzs:z.cells.size=size) (hsz:0 < size) (hone:∀ m,∀ u ∈ (Builtin.zeroCells z.cells m).toList,u.oneCell'=true)
 (v:Value) (n:Nat) (xs:List Value) (hs:a.eval s=v) (hown:w.ownsRow base e size v n xs) (m:Nat) (hx:a.eval x=.int kq (m:Int))
 (h63:n+m≤maxLen) (hbytes:(n+m) * bytes≤140737488355328) (hbase:base≤w.heap.size)
 (h:∀ v' w',w'.ownsRow base e size v' (n+m) (xs ++ (Builtin.zeroCells z.cells m).toList)→w.grownBy w' v.ownBlock→(v'.ownBlock=v.ownBlock ∨ v'.ownBlock=some w.heap.size)→wpList P ops Q rest (a.put o.dst v') w'):wpList P ops Q (o :: rest) a w:=by
 obtain ⟨v',w',hr,h2,h3,h4⟩:=run_append_zeros (P:=P) w base t tn o.type e i z kq kn size bytes ht htn hi hz hsize hby hzs hsz hone v n xs hown m h63 hbytes hbase
 exact Lib.wpList_append_run w hgd s x t tn ho v _ hs hx v' w' hr (h v' w' h2 h3 h4)
theorem zeros_u32 (m:Nat):(Builtin.zeroCells (Value.int .u32 0).cells m).toList=(List.replicate m 0).flatMap u32Cells:=by
 have h1:(Builtin.zeroCells (Value.int .u32 0).cells m).toList=List.replicate m (.int .u32 0):=by
  refine List.ext_getElem? fun j=>?_
  simp only [Builtin.zeroCells,Value.cells]
  rcases Nat.lt_or_ge j m with h | h
  · simp [h,Nat.mod_one]
  · simp [h]
 rw [h1]
 clear h1
 induction m with
 | zero=>rfl
 | succ m ih=>simp_all [List.replicate_succ,u32Cells]
end Go.Proofs.YtgofpbdbeegoeaaGreatDoor
