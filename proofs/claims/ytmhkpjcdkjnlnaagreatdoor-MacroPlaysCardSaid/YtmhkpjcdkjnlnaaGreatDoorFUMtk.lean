/- The contracts of micro's isHistory, activeKids, activeLeaves, activeFor. -/
import Derived.Test.YtmhkpjcdkjnlnaaGreatDoorFUIdn
import Derived.Test.YtmhkpjcdkjnlnaaGreatDoorFUIst
import Derived.Test.YtmhkpjcdkjnlnaaGreatDoorFUMsn
import Derived.Test.YtmhkpjcdkjnlnaaGreatDoorFUHrd
import Derived.Test.YtmhkpjcdkjnlnaaGreatDoorFUHpure
namespace Go.Proofs.YtmhkpjcdkjnlnaaGreatDoor
open Go.ChangeShapes Go.WideShapes Go.ChangeAt Go.RowKit
set_option linter.unusedVariables false

theorem isHistM_any (k:Int) (w:World):Calls Tryz.prog 211 #[.int .i64 k] w fun e w'=>e=.returned (.bool (histB k))∧w=w':=by
 go_enter Tryz.func211,Tryz.ntmps211
 by_cases h5:k=5
 · subst h5
   go_wp2_with fail
   go_ret
   exact ⟨rfl,rfl⟩
 · have h5b:(k == 5)=false:=by simpa using h5
   by_cases h6:k=6
   · subst h6
     go_wp2_with fail
     go_ret
     exact ⟨rfl,rfl⟩
   · have h6b:(k == 6)=false:=by simpa using h6
     go_wp2_with fail
     go_ret
     exact ⟨ret_bool (by unfold histB; simp [h5,h6]),rfl⟩
section
variable {w0:World} {M:Nat→Option Obj} {t g:Nat} {vs vt:Value} {C:Ch} {w:World} {vh ve vi vo:Value} {X:Se}
theorem upto_add (P:Nat→Bool) {n m:Nat} (hn:n≤31) (hm:m < n) (hP:P m=true):bits .or .u32 ((bset (fun k=>decide (k < m) && P k) n:Nat):Int) ((2:Int) ^ m)=((bset (fun k=>decide (k < m+1) && P k) n:Nat):Int):=by
 rw [or_add _ n m hn hm]
 congr 1
 refine bset_congr n fun k hk=>?_
 unfold addS
 by_cases hkm:k=m
 · subst hkm; simp [hP]
 · have h1:decide ((k:Int)=(m:Int))=false:=by simpa using (by omega:¬ (k:Int)=m)
   have h2:decide (k < m+1)=decide (k < m):=by simp; omega
   rw [h1,h2]
   simp
theorem upto_not (P:Nat→Bool) {n m:Nat} (hP:P m=false):bset (fun k=>decide (k < m+1) && P k) n=bset (fun k=>decide (k < m) && P k) n:=by
 refine bset_congr n fun k hk=>?_
 by_cases hkm:k=m
 · subst hkm; simp [hP]
 · have h2:decide (k < m+1)=decide (k < m):=by simp; omega
   rw [h2]
theorem upto_none (P:Nat→Bool) (n:Nat):bset (fun k=>decide (k < 0) && P k) n=0:=by
 have:(fun k=>decide (k < 0) && P k)=fun _=>false:=by funext k; simp
 rw [this]
 exact bset_none n
theorem upto_all (P:Nat→Bool) (n:Nat):bset (fun k=>decide (k < n) && P k) n=bset P n:=bset_congr n fun k hk=>by simp [hk]
set_option maxHeartbeats 4000000 in
set_option maxRecDepth 100000 in
theorem activeKids_any (hF:Fx w0 t vs vt C) (hS:SeAt w0 M t g vs vt C w vh ve vi vo X) (p:Int) :
 Calls Tryz.prog 224 #[.pointer (some ⟨g,0,none⟩),.int .i64 p] w fun e w'=>e=.returned (.int .u32 ((bset (fun k:Nat=>decide ((stAt C.sts (k:Int)).par=p) && X.a k) C.sts.length:Nat):Int))∧Below w.heap.size w w':=by
 have hlen:=hF.tame.len
 obtain ⟨sA,scap,tA,tcap,rfl,rfl⟩:=hF.has.slices
 have HS:=Lib.hid hS
 have HC:=Lib.hid hF.has
 obtain ⟨⟨x0,x1,x2,x3,x4⟩,-⟩:=hS.cells
 obtain ⟨P,hP⟩:∃ P:Nat→Bool,(fun k:Nat=>decide ((stAt C.sts (k:Int)).par=p) && X.a k)=P:=⟨_,rfl⟩
 have HP:Hid (∀ k,P k=(decide ((stAt C.sts (k:Int)).par=p) && X.a k)):=Lib.hid (fun k=>by rw [← hP])
 rw [hP]
 have H0:Hid (bset (fun k=>decide (k < 0) && P k) C.sts.length=0):=Lib.hid (upto_none P _)
 clear hF hS hP
 go_enter Tryz.func224,Tryz.ntmps224
 go_wp2_with fail
 go_loopw [5,14] (fun v i wr=>∃ k:Nat,k≤C.sts.length∧i=.int .i64 (k:Int)∧v=.int .u32 ((bset (fun j=>decide (j < k) && P j) C.sts.length:Nat):Int)∧Below w.heap.size w wr) (fun _ i _=>C.sts.length - (intOf i).toNat)
 case atStart=>exact ⟨0,Nat.zero_le _,rfl,by rw [H0.out]; rfl,Below.refl _ _⟩
 case round =>
  obtain ⟨k,hk,rfl,rfl,hb⟩:=hrel
  obtain ⟨wo,rfl⟩:∃ wo:World,wo=wr:=⟨_,rfl⟩
  clear x0 x1 x2 x3 x4
  by_cases hlt:k < C.sts.length
  · obtain ⟨b,o,cap',ui,ue,ux,hsl,_,hbl,hst,hhas⟩:=HC.out.st hlt
    injection hsl with e1 e2 e3
    subst e1
    obtain ⟨c0,c1,c2,c3,c4⟩:=hst.below (HS.out.below.trans (hb.mono HS.out.lt)) hbl
    obtain ⟨iA,icap,eA,ecap,xA,xcap,rfl,rfl,rfl⟩:=hhas.slices
    have hne:=(and_test X.a C.sts.length k (by omega) hlt).2
    have hPk:=HP.out k
    have hyes:=fun h=>upto_add P (n:=C.sts.length) (m:=k) (by omega) hlt h
    have hno:=fun h=>upto_not P (n:=C.sts.length) (m:=k) h
    have hw4:=(HS.out.after (hb.alloc hb.size (stBox (stAt C.sts (k:Int)).kind (stAt C.sts (k:Int)).par (.slice iA (stAt C.sts (k:Int)).ini.length icap) (.slice eA (stAt C.sts (k:Int)).ent.length ecap) (.slice xA (stAt C.sts (k:Int)).exi.length xcap)))).drew.cells.1.2.2.2.2
    have HB:=Lib.hid (hb.alloc hb.size (stBox (stAt C.sts (k:Int)).kind (stAt C.sts (k:Int)).par (.slice iA (stAt C.sts (k:Int)).ini.length icap) (.slice eA (stAt C.sts (k:Int)).ent.length ecap) (.slice xA (stAt C.sts (k:Int)).exi.length xcap)))
    have HBX:=Lib.hid (Blk.new wo 63 #[.int .i64 (stAt C.sts (k:Int)).kind,.int .i64 (stAt C.sts (k:Int)).par,.slice iA (stAt C.sts (k:Int)).ini.length icap,.slice eA (stAt C.sts (k:Int)).ent.length ecap,.slice xA (stAt C.sts (k:Int)).exi.length xcap]).drew
    generalize (stAt C.sts (k:Int)).kind=K at *
    generalize (stAt C.sts (k:Int)).par=Q at *
    generalize (stAt C.sts (k:Int)).ini.length=il at *
    generalize (stAt C.sts (k:Int)).ent.length=el at *
    generalize (stAt C.sts (k:Int)).exi.length=xl at *
    clear hst hhas e2 e3 hb
    by_cases hq:Q=p
    · have hqb:(Q == p)=true:=by simpa using hq
      cases hx:X.a k with
      | true =>
       have hu:=hyes (by rw [hPk,hx]; simpa using hq)
       rw [hx] at hne
       have HU:=Lib.hid hu
       clear hq hx hPk hyes hno hu
       go_wp2_with fail
       refine anyD_start (fun W=>W.cell? ⟨wo.heap.size,1,none⟩=some (.int .i64 Q)∧W.cell? ⟨g,4,none⟩=some (.int .u32 ((bset X.a C.sts.length:Nat):Int))) (fun i=>[].contains i) (by kernel_rfl) ?_
       try simp only [Act.put,sx]
       have y1:=HBX.out.cell 1
       refine anyD_t 0 (.pointer (some ⟨wo.heap.size,1,none⟩)) ?_
       try simp only [Act.put,sx]
       refine anyD_l 1 (.int .i64 Q) (⟨y1,hw4⟩) ?_
       try simp only [Act.put,sx]
       refine anyD_t 2 (.int .i64 p) ?_
       try simp only [Act.put,sx]
       refine anyD_t 3 (.bool true) ?_
       try simp only [Act.put,sx]
       refine anyD_t 4 (.bool true) ?_
       try simp only [Act.put,sx]
       refine anyD_t 5 (.pointer (some ⟨g,0,none⟩)) ?_
       try simp only [Act.put,sx]
       refine anyD_t 6 (.pointer (some ⟨g,0,none⟩)) ?_
       try simp only [Act.put,sx]
       refine anyD_t 7 (.pointer (some ⟨g,4,none⟩)) ?_
       try simp only [Act.put,sx]
       refine anyD_t 8 (.pointer (some ⟨g,4,none⟩)) ?_
       try simp only [Act.put,sx]
       refine anyD_l 9 (.int .u32 ((bset X.a C.sts.length:Nat):Int)) (⟨y1,hw4⟩) ?_
       try simp only [Act.put,sx]
       refine anyD_t 10 (.int .i64 (k:Int)) ?_
       try simp only [Act.put,sx]
       refine anyD_only (i:=11) rfl (by kernel_rfl) (by kernel_rfl) (fun K HK=>?_)
       go_simp
       refine (bitM_any k (by omega) _).mono ?_
       rintro e w2 ⟨rfl,rfl⟩
       go_simp
       refine HK.out _ _ (fun _ hS=>⟨y1,hw4⟩) ?_
       clear HK K
       try simp only [Act.put,sx]
       refine anyD_only (i:=12) rfl (by kernel_rfl) (by kernel_rfl) (fun K HK=>?_)
       go_simp
       refine HK.out _ _ (fun _ hS=>⟨y1,hw4⟩) ?_
       clear HK K
       try simp only [Act.put,sx]
       refine anyD_only (i:=13) rfl (by kernel_rfl) (by kernel_rfl) (fun K HK=>?_)
       go_simp
       refine HK.out _ _ (fun _ hS=>⟨y1,hw4⟩) ?_
       clear HK K
       try simp only [Act.put,sx]
       refine anyD_t 14 (.bool true) ?_
       try simp only [Act.put,sx]
       refine anyD_done (by kernel_rfl) ?_
       go_wp2_with fail
       refine (bitM_any k (by omega) _).mono ?_
       rintro e w2 ⟨rfl,rfl⟩
       go_wp2_with fail
       go_roundw
       case rel=>exact ⟨k+1,by omega,by go_num,by rw [← HU.out],below_drewN HB.out 1⟩
       case measure=>simp [intOf]; omega
      | false =>
       have hu:=hno (by rw [hPk,hx]; simp)
       rw [hx] at hne
       have HU:=Lib.hid hu
       clear hq hx hPk hyes hno hu
       go_wp2_with fail
       refine anyD_start (fun W=>W.cell? ⟨wo.heap.size,1,none⟩=some (.int .i64 Q)∧W.cell? ⟨g,4,none⟩=some (.int .u32 ((bset X.a C.sts.length:Nat):Int))) (fun i=>[].contains i) (by kernel_rfl) ?_
       try simp only [Act.put,sx]
       have y1:=HBX.out.cell 1
       refine anyD_t 0 (.pointer (some ⟨wo.heap.size,1,none⟩)) ?_
       try simp only [Act.put,sx]
       refine anyD_l 1 (.int .i64 Q) (⟨y1,hw4⟩) ?_
       try simp only [Act.put,sx]
       refine anyD_t 2 (.int .i64 p) ?_
       try simp only [Act.put,sx]
       refine anyD_t 3 (.bool true) ?_
       try simp only [Act.put,sx]
       refine anyD_t 4 (.bool true) ?_
       try simp only [Act.put,sx]
       refine anyD_t 5 (.pointer (some ⟨g,0,none⟩)) ?_
       try simp only [Act.put,sx]
       refine anyD_t 6 (.pointer (some ⟨g,0,none⟩)) ?_
       try simp only [Act.put,sx]
       refine anyD_t 7 (.pointer (some ⟨g,4,none⟩)) ?_
       try simp only [Act.put,sx]
       refine anyD_t 8 (.pointer (some ⟨g,4,none⟩)) ?_
       try simp only [Act.put,sx]
       refine anyD_l 9 (.int .u32 ((bset X.a C.sts.length:Nat):Int)) (⟨y1,hw4⟩) ?_
       try simp only [Act.put,sx]
       refine anyD_t 10 (.int .i64 (k:Int)) ?_
       try simp only [Act.put,sx]
       refine anyD_only (i:=11) rfl (by kernel_rfl) (by kernel_rfl) (fun K HK=>?_)
       go_simp
       refine (bitM_any k (by omega) _).mono ?_
       rintro e w2 ⟨rfl,rfl⟩
       go_simp
       refine HK.out _ _ (fun _ hS=>⟨y1,hw4⟩) ?_
       clear HK K
       try simp only [Act.put,sx]
       refine anyD_only (i:=12) rfl (by kernel_rfl) (by kernel_rfl) (fun K HK=>?_)
       go_simp
       refine HK.out _ _ (fun _ hS=>⟨y1,hw4⟩) ?_
       clear HK K
       try simp only [Act.put,sx]
       refine anyD_only (i:=13) rfl (by kernel_rfl) (by kernel_rfl) (fun K HK=>?_)
       go_simp
       refine HK.out _ _ (fun _ hS=>⟨y1,hw4⟩) ?_
       clear HK K
       try simp only [Act.put,sx]
       refine anyD_t 14 (.bool false) ?_
       try simp only [Act.put,sx]
       refine anyD_done (by kernel_rfl) ?_
       go_wp2_with fail
       go_roundw
       case rel=>exact ⟨k+1,by omega,by go_num,by rw [HU.out],below_drewN HB.out 1⟩
       case measure=>simp [intOf]; omega
    · have hqb:(Q == p)=false:=by simpa using hq
      have hu:=hno (by rw [hPk]; simp [hq])
      have HU:=Lib.hid hu
      clear hq hPk hyes hno hu
      go_wp2_with fail
      go_quiet (fail)
      go_wp2_with fail
      go_roundw
      case rel=>exact ⟨k+1,by omega,by go_num,by rw [HU.out],below_drewN HB.out _⟩
      case measure=>simp [intOf]; omega
  · obtain rfl:k=C.sts.length:=by omega
    have HB:=Lib.hid hb
    go_wp2_with fail
    go_ret
    exact ⟨by rw [upto_all]; rfl,HB.out⟩
def lvA (S:List St) (L:List Int) (p:Int) (k:Nat):Bool:=L.contains (k:Int) && cIn S (k:Int) p
theorem lvA_add (S:List St) (L:List Int) (p:Int) {n j:Nat} (hn:n≤31) (hj:j < n) (hc:cIn S (j:Int) p=true):bits .or .u32 ((bset (lvA S L p) n:Nat):Int) ((2:Int) ^ j)=((bset (lvA S (L ++ [(j:Int)]) p) n:Nat):Int):=by
 rw [or_add _ n j hn hj]
 congr 1
 refine bset_congr n fun k hk=>?_
 unfold addS lvA
 rw [List.contains_append]
 by_cases hkj:k=j
 · subst hkj; simp [hc]
 · have h1:decide ((k:Int)=(j:Int))=false:=by simpa using (by omega:¬ (k:Int)=j)
   have h2:[(j:Int)].contains (k:Int)=false:=by simpa using (by omega:¬ (k:Int)=j)
   rw [h1,h2]
   simp
theorem lvA_not (S:List St) (L:List Int) (p:Int) {n j:Nat} (hc:cIn S (j:Int) p=false):bset (lvA S (L ++ [(j:Int)]) p) n=bset (lvA S L p) n:=by
 refine bset_congr n fun k hk=>?_
 unfold lvA
 rw [List.contains_append]
 by_cases hkj:k=j
 · subst hkj; simp [hc]
 · have h2:[(j:Int)].contains (k:Int)=false:=by simpa using (by omega:¬ (k:Int)=j)
   rw [h2]
   simp
theorem lv_mem {S:List St} {N k:Nat} (hk:k < S.length):(lvL S N).contains (k:Int)=leafP S N k:=by
 rw [Bool.eq_iff_iff,List.contains_iff_mem]
 unfold lvL lvU
 rw [List.mem_map]
 constructor
 · rintro ⟨j,hj,he⟩
   obtain rfl:j=k:=by omega
   exact (List.mem_filter.1 hj).2
 · intro h
   exact ⟨k,List.mem_filter.2 ⟨List.mem_range.2 hk,h⟩,rfl⟩
theorem lv_nat {S:List St} {N:Nat} {x:Int} (h:x ∈ lvL S N):∃ j:Nat,x=(j:Int)∧j < S.length:=by
 unfold lvL lvU at h
 obtain ⟨j,hj,rfl⟩:=List.mem_map.1 h
 exact ⟨j,rfl,List.mem_range.1 (List.mem_filter.1 hj).1⟩
set_option maxHeartbeats 4000000 in
set_option maxRecDepth 100000 in
theorem activeLeaves_any (hF:Fx w0 t vs vt C) (hS:SeAt w0 M t g vs vt C w vh ve vi vo X) (p:Int) :
 Calls Tryz.prog 225 #[.pointer (some ⟨g,0,none⟩),.int .i64 p] w fun e w'=>e=.returned (.int .u32 ((bset (fun k:Nat=>(X.a k && leafK C.sts (k:Int)) && cIn C.sts (k:Int) p) C.sts.length:Nat):Int))∧Below w.heap.size w w':=by
 have hlen:=hF.tame.len
 have HS:=Lib.hid hS
 have HLV:=Lib.hid (leavesT_any t (bset X.a C.sts.length) C w.drew (hF.tree.below hS.drew.below) (by omega) (bset_u32 _ (by omega)))
 have HRES:Hid (bset (fun k:Nat=>(X.a k && leafK C.sts (k:Int)) && cIn C.sts (k:Int) p) C.sts.length=bset (lvA C.sts (lvL C.sts (bset X.a C.sts.length)) p) C.sts.length):=Lib.hid (bset_congr _ fun k hk=>by
  unfold lvA
  rw [lv_mem hk]
  unfold leafP
  rw [bset_bitN k hk]
  rfl)
 have HNAT:Hid (∀ x ∈ lvL C.sts (bset X.a C.sts.length),∃ j:Nat,x=(j:Int)∧j < C.sts.length):=Lib.hid (fun x hx=>lv_nat hx)
 have HIN:=Lib.hid (fun (W:World) (h:Below w0.heap.size w0 W) (a:Int)=>inT_any t a p C W (hF.tree.below h) (by omega) hF.rooted)
 have hln:(lvL C.sts (bset X.a C.sts.length)).length≤24:=by
  unfold lvL lvU
  rw [List.length_map]
  exact Nat.le_trans (List.length_filter_le _ _) (by rw [List.length_range]; exact hlen)
 obtain ⟨L,hL⟩:∃ L,lvL C.sts (bset X.a C.sts.length)=L:=⟨_,rfl⟩
 rw [hL] at HLV HRES HNAT hln
 rw [HRES.out]
 have HSD:=Lib.hid hS.drew
 obtain ⟨⟨x0,-,-,-,x4⟩,-⟩:=hS.drew.cells
 clear hF hS hL HRES
 go_enter Tryz.func225,Tryz.ntmps225
 go_wp2_with fail
 refine anyD_start (fun W=>W.cell? ⟨g,0,none⟩=some (.pointer (some ⟨t,0,none⟩))∧W.cell? ⟨g,4,none⟩=some (.int .u32 ((bset X.a C.sts.length:Nat):Int))) (fun i=>[].contains i) (by kernel_rfl) ?_
 try simp only [Act.put,sx]
 refine anyD_t 0 (.pointer (some ⟨g,0,none⟩)) ?_
 try simp only [Act.put,sx]
 refine anyD_t 1 (.pointer (some ⟨g,0,none⟩)) ?_
 try simp only [Act.put,sx]
 refine anyD_t 2 (.pointer (some ⟨g,0,none⟩)) ?_
 try simp only [Act.put,sx]
 refine anyD_l 3 (.pointer (some ⟨t,0,none⟩)) (⟨x0,x4⟩) ?_
 try simp only [Act.put,sx]
 refine anyD_t 4 (.pointer (some ⟨g,0,none⟩)) ?_
 try simp only [Act.put,sx]
 refine anyD_t 5 (.pointer (some ⟨g,0,none⟩)) ?_
 try simp only [Act.put,sx]
 refine anyD_t 6 (.pointer (some ⟨g,4,none⟩)) ?_
 try simp only [Act.put,sx]
 refine anyD_t 7 (.pointer (some ⟨g,4,none⟩)) ?_
 try simp only [Act.put,sx]
 refine anyD_l 8 (.int .u32 ((bset X.a C.sts.length:Nat):Int)) (⟨x0,x4⟩) ?_
 try simp only [Act.put,sx]
 refine anyD_t 11 (.int .i64 0) ?_
 try simp only [Act.put,sx]
 refine anyD_one (i:=9) rfl rfl (by kernel_rfl) (fun K HK=>?_)
 go_simp
 refine HLV.out.mono ?_
 rintro e w2 ⟨hb2,v2,rfl,hown2⟩
 obtain ⟨A2,cap2,rfl⟩:=own_slice hown2
 have HB2:Hid (Below w.heap.size w w2):=Lib.hid ((Below.refl _ _).drew.trans hb2)
 have HS2:=Lib.hid (HSD.out.after hb2)
 have HLA:=Lib.hid (list_of_own hown2)
 clear hb2 hown2
 go_simp
 refine HK.out _ _ (fun _ hS=>⟨HS2.out.cells.1.1,HS2.out.cells.1.2.2.2.2⟩) ?_
 clear HK K
 try simp only [Act.put,sx]
 refine anyD_t 10 (.int .i64 (L.length:Int)) ?_
 try simp only [Act.put,sx]
 refine anyD_done (by kernel_rfl) ?_
 clear x0 x4
 have HIN2:=Lib.hid (HIN.out w2 HS2.out.below)
 obtain ⟨⟨x0,-,-,-,-⟩,-⟩:=HS2.out.cells
 have H0:Hid (bset (lvA C.sts [] p) C.sts.length=0):=Lib.hid (by
  have:lvA C.sts [] p=fun _=>false:=by funext k; simp [lvA]
  rw [this]
  exact bset_none _)
 go_wp2_with fail
 go_loopw [5,19] (fun v i wr=>∃ m:Nat,m≤L.length∧i=.int .i64 (m:Int)∧v=.int .u32 ((bset (lvA C.sts (L.take m) p) C.sts.length:Nat):Int)∧wr=w2) (fun _ i _=>L.length - (intOf i).toNat)
 case atStart=>exact ⟨0,Nat.zero_le _,rfl,by rw [List.take_zero,H0.out]; rfl,rfl⟩
 case round =>
  obtain ⟨m,hm,rfl,rfl,rfl⟩:=hrel
  by_cases hlt:m < L.length
  · obtain ⟨_,_,q1,_,q3⟩:=HLA.out
    injection q1 with e1 e2 e3
    subst e1
    obtain ⟨b,o,rfl,hbl,hc⟩:=q3 m _ (List.getElem?_eq_getElem hlt)
    have c0:wr.cell? ⟨b,o+m,none⟩=some (.int .i64 L[m]):=by have:=hc; unfold IntAt at this; rwa [Nat.mul_one] at this
    have hmem:L[m] ∈ L:=List.getElem_mem hlt
    have htk:L.take (m+1)=L.take m ++ [L[m]]:=by rw [List.take_add_one,List.getElem?_eq_getElem hlt]; rfl
    generalize L[m]=x at *
    obtain ⟨j,rfl,hj⟩:=HNAT.out x hmem
    have hyes:=fun h=>lvA_add C.sts (L.take m) p (n:=C.sts.length) (j:=j) (by omega) hj h
    have hno:=fun h=>lvA_not C.sts (L.take m) p (n:=C.sts.length) (j:=j) h
    have HTK:=Lib.hid htk
    clear hc q3 e2 e3 htk hmem
    cases hci:cIn C.sts (j:Int) p with
    | true =>
     have hu:=hyes hci
     have HI2:=Lib.hid (HIN2.out (j:Int))
     rw [hci] at HI2
     clear hyes hno hci
     go_wp2_with fail
     refine HI2.out.mono ?_
     rintro e w3 ⟨rfl,rfl⟩
     go_wp2_with fail
     refine (bitM_any j (by omega) _).mono ?_
     rintro e w3 ⟨rfl,rfl⟩
     have HU:=Lib.hid hu
     clear hu
     go_wp2_with fail
     go_roundw
     case rel=>exact ⟨m+1,by omega,by go_num,by rw [HTK.out,← HU.out],trivial⟩
     case measure=>simp [intOf]; omega
    | false =>
     have HU:=Lib.hid (hno hci)
     have HI2:=Lib.hid (HIN2.out (j:Int))
     rw [hci] at HI2
     clear hyes hno hci
     go_wp2_with fail
     refine HI2.out.mono ?_
     rintro e w3 ⟨rfl,rfl⟩
     go_wp2_with fail
     go_roundw
     case rel=>exact ⟨m+1,by omega,by go_num,by rw [HTK.out,HU.out],trivial⟩
     case measure=>simp [intOf]; omega
  · obtain rfl:m=L.length:=by omega
    go_wp2_with fail
    go_ret
    exact ⟨by rw [List.take_length]; rfl,HB2.out⟩
set_option maxHeartbeats 4000000 in
set_option maxRecDepth 100000 in
theorem activeFor_any (hF:Fx w0 t vs vt C) (hS:SeAt w0 M t g vs vt C w vh ve vi vo X) (h:Nat) (iA eA xA:Option Addr) (il icap el ecap xl xcap:Nat) :
 Calls Tryz.prog 212 #[.pointer (some ⟨g,0,none⟩),.agg #[.int .i64 (stAt C.sts (h:Int)).kind,.int .i64 (stAt C.sts (h:Int)).par,.slice iA il icap,.slice eA el ecap,.slice xA xl xcap]] w fun e w'=>e=.returned (.int .u32 ((bset (actP C.sts X.a (h:Int)) C.sts.length:Nat):Int))∧Below w.heap.size w w':=by
 have hb0:=below_box w (stBox (stAt C.sts (h:Int)).kind (stAt C.sts (h:Int)).par (.slice iA il icap) (.slice eA el ecap) (.slice xA xl xcap))
 have HB0:=Lib.hid hb0
 have HK:=Lib.hid (activeKids_any hF (hS.after hb0) (stAt C.sts (h:Int)).par)
 have HLV:=Lib.hid (activeLeaves_any hF (hS.after hb0) (stAt C.sts (h:Int)).par)
 by_cases h5:(stAt C.sts (h:Int)).kind=5
 · have HR:Hid (bset (actP C.sts X.a (h:Int)) C.sts.length=bset (fun k:Nat=>decide ((stAt C.sts (k:Int)).par=(stAt C.sts (h:Int)).par) && X.a k) C.sts.length):=Lib.hid (bset_congr _ fun k _=>by unfold actP; rw [if_pos h5])
   rw [h5] at HB0 HK ⊢
   rw [HR.out]
   generalize (stAt C.sts (h:Int)).par=p at *
   clear hF hS hb0 h5 HR HLV
   go_enter Tryz.func212,Tryz.ntmps212
   go_wp2_with fail
   refine HK.out.mono ?_
   rintro e w2 ⟨rfl,hb2⟩
   have HB2:=Lib.hid (HB0.out.trans (hb2.mono HB0.out.size))
   clear hb2
   go_wp2_with fail
   go_ret
   exact ⟨rfl,HB2.out⟩
 · have h5b:((stAt C.sts (h:Int)).kind == 5)=false:=by simpa using h5
   have HR:Hid (bset (actP C.sts X.a (h:Int)) C.sts.length=bset (fun k:Nat=>(X.a k && leafK C.sts (k:Int)) && cIn C.sts (k:Int) (stAt C.sts (h:Int)).par) C.sts.length):=Lib.hid (bset_congr _ fun k _=>by unfold actP; rw [if_neg h5])
   rw [HR.out]
   generalize (stAt C.sts (h:Int)).kind=K at *
   generalize (stAt C.sts (h:Int)).par=p at *
   clear hF hS hb0 h5 HR HK
   go_enter Tryz.func212,Tryz.ntmps212
   go_wp2_with fail
   refine HLV.out.mono ?_
   rintro e w2 ⟨rfl,hb2⟩
   have HB2:=Lib.hid (HB0.out.trans (hb2.mono HB0.out.size))
   clear hb2
   go_wp2_with fail
   go_ret
   exact ⟨rfl,HB2.out⟩
end

section
variable {T:ByteArray→Int→Int→Bool} {C:Ch}
theorem kinds_of (h:chk T C=.ok):∀ z,isSt C.sts z=true→histB (stAt C.sts z).kind=false→(stAt C.sts z).kind=2 ∨ (stAt C.sts z).kind=3 ∨ leafK C.sts z=true:=fun z hz hh=>by
 have hr:=isSt_iff.1 hz
 have hs:=(chk_ok h).2.1 z.toNat (by omega)
 rw [show ((z.toNat:Nat):Int)=z by omega] at hs
 have hk:=(stF_parts hs).1
 unfold kindB at hk
 split at hk
 · left
   simpa using hk
 · have:=fromB_true.1 hk
   unfold histB at hh
   simp only [Bool.or_eq_false_iff,decide_eq_false_iff_not] at hh
   unfold leafK
   simp only [Bool.or_eq_true,decide_eq_true_eq]
   omega
theorem hpar_of {S:List St} (hT:Tame S):∀ s,isSt S s=true→histB (stAt S s).kind=true→isSt S (stAt S s).par=true∧((stAt S (stAt S s).par).kind=2 ∨ (stAt S (stAt S s).par).kind=3):=fun s hs hh=>by
 have hr:=isSt_iff.1 hs
 have hs0:s ≠ 0:=by rintro rfl; rw [hT.first] at hh; revert hh; decide
 have hu:=hT.up s hs (by omega)
 obtain ⟨u1,u2,u3⟩:=cUp_pos hu
 rw [← u2]
 exact ⟨isSt_iff.2 ⟨hu,by omega⟩,hT.kpar s hu⟩
theorem goal_cnt {S:List St} (hT:Tame S) {s:Int} (hs:isSt S s=true):goalOf S s=cCnt S s:=by
 unfold goalOf cCnt kindT
 rw [if_pos hs,hT.par s hs]
theorem cnt_pos (h:chk T C=.ok) (hT:Tame C.sts) {s:Int} (hs:isSt C.sts s=true) (h0:s ≠ 0):isSt C.sts (cCnt C.sts s)=true∧0 < cCnt C.sts s:=by
 have hr:=isSt_iff.1 hs
 unfold cCnt
 split
 · rename_i hh
   obtain ⟨p1,p2⟩:=hpar_of hT s hs hh
   refine ⟨p1,?_⟩
   have hs':=(chk_ok h).2.1 s.toNat (by omega)
   rw [show ((s.toNat:Nat):Int)=s by omega] at hs'
   have hi:=(stF_parts hs').2.1
   unfold kindInB at hi
   rw [if_neg h0] at hi
   have:=(isSt_iff.1 p1).1
   by_cases hp:(stAt C.sts s).par=0
   · exfalso
     split at hi
     · rename_i h4
       rw [h4] at hh
       revert hh
       decide
     · rw [if_pos ⟨hh,hp⟩] at hi
       cases hi
   · omega
 · exact ⟨hs,by omega⟩
theorem jn_some {S:List St} (hT:Tame S) {L:List Int} (hall:∀ i,i < L.length→cIn S (L.getD i 0) 0=true):∀ (n:Nat) (p:Int),p.toNat < n→Sub S p 0→0≤jnF S L n p
 | 0,p,hn,_=>by omega
 | n+1,p,hn,hp=>by
  have hp0:0≤p:=by rcases hp with rfl | hp; omega; have:=cIn_range hp; omega
  rw [jnF,if_neg (by omega)]
  split
  · exact hp0
  · rename_i hc
    rcases hp with rfl | hp
    · exact absurd ⟨hT.first,allU_true hall⟩ hc
    · have:=cUp_pos ((cIn_iff _ _ _).1 hp).1
      have:=cIn_range hp
      exact jn_some hT hall n _ (by omega) (up_sub hp)
theorem jnT_some {S:List St} (hT:Tame S) {L:List Int} (hne:L.length ≠ 0) (hall:∀ x ∈ L,isSt S x=true∧0 < x):0≤jnT S L:=by
 have hin:∀ i,i < L.length→cIn S (L.getD i 0) 0=true:=fun i hi=>by
  have hm:L.getD i 0 ∈ L:=by
   rw [List.getD_eq_getElem?_getD,List.getElem?_eq_getElem hi]
   exact List.getElem_mem hi
  exact hT.all _ (hall _ hm).1 (hall _ hm).2
 unfold jnT
 rw [if_neg hne]
 have h0:=hin 0 (by omega)
 exact jn_some hT hin _ _ (by have:=cUp_pos ((cIn_iff _ _ _).1 h0).1; have:=cIn_range h0; omega) (up_sub h0)
theorem reach_of (h:chk T C=.ok) {i:Int} (hi:isTr C.trs i=true) (ht:(trAt C.trs i).tgts ≠ []) :
 TOk C.sts (rchL C i) (trAt C.trs i).tgts∧isSt C.sts (rchL C i)=true∧(stAt C.sts (rchL C i)).kind=2∧Sub C.sts (trAt C.trs i).src (rchL C i):=by
 have hT:=tame_of h
 obtain ⟨k,rfl,hk⟩:=isTr_nat hi
 have hf:=(chk_ok h).2.2 k hk
 have htr:C.trs.getD k noTr=trAt C.trs (k:Int):=rfl
 rw [htr] at hf
 have hof:rchL C (k:Int)=rchT C.sts (trAt C.trs (k:Int)):=by unfold rchL trOf; rw [if_pos hi]
 rw [hof]
 generalize trAt C.trs (k:Int)=t at *
 unfold trF at hf
 have hsrc:srcB C.sts t.src=true:=by
  cases hb:srcB C.sts t.src with
  | true=>rfl
  | false=>rw [hb,if_pos rfl] at hf; omega
 rw [if_neg (by rw [hsrc]; simp)] at hf
 have hev:evB C.sts t.ev=true:=by
  cases hb:evB C.sts t.ev with
  | true=>rfl
  | false=>rw [hb,if_pos rfl] at hf; omega
 rw [if_neg (by rw [hev]; simp)] at hf
 have htg:tgtsB C.sts t.tgts=true:=by
  cases hb:tgtsB C.sts t.tgts with
  | true=>rfl
  | false=>rw [hb,if_pos rfl] at hf; omega
 clear hf hev
 unfold srcB notFirst at hsrc
 simp only [Bool.and_eq_true,decide_eq_true_eq] at hsrc
 obtain ⟨⟨hs0,hs1⟩,hs2⟩:=hsrc
 unfold tgtsB at htg
 simp only [Bool.and_eq_true,decide_eq_true_eq] at htg
 obtain ⟨⟨_,hn⟩,hp⟩:=htg
 have hst:∀ x ∈ t.tgts,x ≠ 0∧isSt C.sts x=true:=fun x hx=>by
  obtain ⟨j,hj,rfl⟩:=List.getElem_of_mem hx
  have:=of_allU hn j hj
  rw [List.getD_eq_getElem?_getD,List.getElem?_eq_getElem hj] at this
  unfold notFirst at this
  simpa using this
 have hpart:t.tgts.Pairwise fun a b=>Part C.sts (cCnt C.sts a) (cCnt C.sts b):=by
  rw [List.pairwise_iff_getElem]
  intro a b ha hb hab
  have h1:=of_allU hp b hb
  unfold pairB at h1
  have h2:=of_allU h1 a hab
  rw [List.getD_eq_getElem?_getD,List.getElem?_eq_getElem hb,List.getD_eq_getElem?_getD,List.getElem?_eq_getElem ha] at h2
  exact (part_of h2).symm
 have hgoal:∀ x ∈ t.tgts,goalOf C.sts x=cCnt C.sts x:=fun x hx=>goal_cnt hT (hst x hx).2
 have hmem:∀ x ∈ t.tgts,goalOf C.sts x ∈ goalsL C.sts t.tgts:=fun x hx=>List.mem_map.2 ⟨x,hx,rfl⟩
 have hlen:t.tgts.length ≠ 0:=fun hc=>ht (List.eq_nil_of_length_eq_zero hc)
 unfold rchT
 rw [if_neg hlen]
 by_cases hc:t.inner=true∧kindT C.sts t.src=2∧(allU (goalsL C.sts t.tgts).length fun i=>cIn C.sts ((goalsL C.sts t.tgts).getD i 0) t.src)=true
 · rw [if_pos hc]
   obtain ⟨_,hk2,hall⟩:=hc
   refine ⟨⟨fun x hx=>⟨(hst x hx).2,?_⟩,hpart,ht⟩,hs1,?_,.inl rfl⟩
   · obtain ⟨j,hj,he⟩:=List.getElem_of_mem (hmem x hx)
     have:=of_allU hall j hj
     rw [List.getD_eq_getElem?_getD,List.getElem?_eq_getElem hj] at this
     rw [← hgoal x hx,← he]
     exact this
   · unfold kindT at hk2
     rwa [if_pos hs1] at hk2
 · rw [if_neg hc]
   have hall:∀ x ∈ goalsL C.sts t.tgts ++ [t.src],isSt C.sts x=true∧0 < x:=fun x hx=>by
    rcases List.mem_append.1 hx with hx | hx
    · obtain ⟨y,hy,rfl⟩:=List.mem_map.1 hx
      rw [hgoal y hy]
      exact cnt_pos h hT (hst y hy).2 (hst y hy).1
    · rw [List.mem_singleton.1 hx]
      have:=isSt_iff.1 hs1
      exact ⟨hs1,by omega⟩
   have hj:=jnT_some hT (L:=goalsL C.sts t.tgts ++ [t.src]) (by simp) hall
   obtain ⟨j1,j2,j3⟩:=jnT_spec _ _ hj
   have hin:∀ x ∈ goalsL C.sts t.tgts ++ [t.src],cIn C.sts x (jnT C.sts (goalsL C.sts t.tgts ++ [t.src]))=true:=fun x hx=>by
    obtain ⟨j,hj,he⟩:=List.getElem_of_mem hx
    have:=j3 j hj
    rw [List.getD_eq_getElem?_getD,List.getElem?_eq_getElem hj] at this
    rw [← he]
    exact this
   refine ⟨⟨fun x hx=>⟨(hst x hx).2,?_⟩,hpart,ht⟩,j1,j2,.inr (hin _ (List.mem_append_right _ (List.mem_singleton.2 rfl)))⟩
   rw [← hgoal x hx]
   exact hin _ (List.mem_append_left _ (hmem x hx))
end
section
variable (env:List Int) (ev:Int)
theorem frS_src (s:Int) (R:List Tr):∀ (r:List Tr) (k n:Nat),(∀ j t,r[j]?=some t→R[k+j]?=some t)→(frS env ev s r k n).1 ≠ -1→(trAt R (frS env ev s r k n).1).src=s
 | [],k,n,_,h=>absurd rfl h
 | t :: r,k,n,hr,h=>by
  rw [frS] at h ⊢
  have hnext:∀ j u,r[j]?=some u→R[k+1+j]?=some u:=fun j u hu=>by
   have:=hr (j+1) u (by simpa using hu)
   rwa [show k+(j+1)=k+1+j by omega] at this
  split at h
  · rename_i hs
    rw [if_pos hs]
    split at h
    · rename_i hy
      rw [if_pos hy]
      have h0:=hr 0 t rfl
      rw [Nat.add_zero] at h0
      have hk:=(List.getElem?_eq_some_iff.1 h0).1
      rw [trAt_nat hk] at h0
      injection h0 with h0
      simp only
      rw [h0]
      exact hs
    · rename_i hy
      rw [if_neg hy]
      exact frS_src s R r _ _ hnext h
  · rename_i hs
    rw [if_neg hs]
    exact frS_src s R r _ _ hnext h
theorem frA_src (R:List Tr):∀ (l:List Int) (n:Nat),(frA env ev R l n).1 ≠ -1→(trAt R (frA env ev R l n).1).src ∈ l
 | [],n,h=>absurd rfl h
 | s :: r,n,h=>by
  rw [frA] at h ⊢
  split at h
  · rename_i hs
    rw [if_pos hs]
    exact List.mem_cons_of_mem _ (frA_src R r _ h)
  · rename_i hs
    rw [if_neg hs]
    rw [frS_src env ev s R R 0 n (fun j t h=>by rwa [Nat.zero_add]) h]
    exact List.mem_cons_self ..
theorem ga_src (C:Ch) {P:Int→Prop}:∀ (l:List Int) (a:List Int × Nat),(∀ s ∈ l,∀ x ∈ wayL C.sts s,P x)→(∀ i ∈ a.1,P (trAt C.trs i).src)→∀ i ∈ (l.foldl (gaStep C env ev) a).1,P (trAt C.trs i).src
 | [],a,_,h=>h
 | s :: r,a,hl,h=>by
  rw [List.foldl_cons]
  refine ga_src C r _ (fun s' hs'=>hl s' (List.mem_cons_of_mem _ hs')) fun i hi=>?_
  unfold gaStep putIn at hi
  simp only at hi
  split at hi
  · exact h i hi
  · rename_i hn
    rcases List.mem_append.1 hi with h1 | h1
    · exact h i h1
    · obtain rfl:=List.mem_singleton.1 h1
      exact hl s (List.mem_cons_self ..) _ (frA_src env ev C.trs _ 0 (fun hc=>hn (.inl hc)))
theorem gaL_src (C:Ch) (hT:Tame C.sts) (n:Nat) (hW:WB C.sts (bitN n) 0):∀ i ∈ (gaL C env ev n).1,hasS (bitN n) (trAt C.trs i).src=true:=by
 refine ga_src env ev C (P:=fun x=>hasS (bitN n) x=true) _ _ (fun s hs x hx=>?_) (fun i hi=>by cases hi)
 have hsb:hasS (bitN n) s=true:=by
  unfold lvL lvU at hs
  obtain ⟨k,hk,rfl⟩:=List.mem_map.1 hs
  have:=(List.mem_filter.1 hk).2
  unfold leafP at this
  simp only [Bool.and_eq_true] at this
  rw [hasS_nat]
  exact this.1
 unfold wayL at hx
 rcases List.mem_cons.1 hx with rfl | hx
 · exact hsb
 · exact WB.above hT hW _ s x (Nat.le_refl _) hsb (ups_in hx)
end
def entL (C:Ch) (H:List Nat) (l:List Int):List (Int × (Nat→Bool)):=(l.filter fun i=>decide ((trAt C.trs i).tgts ≠ [])).map fun i=>(rchL C i,dSet C.sts H (rchL C i) (trAt C.trs i).tgts)
theorem and_bits {a b k:Nat} (ha:bitN a k=true) (hb:bitN b k=true):a &&& b ≠ 0:=by
 intro hc
 have h1:(a &&& b).testBit k=true:=by
  rw [Nat.testBit_and,Nat.testBit_eq_decide_div_mod_eq,Nat.testBit_eq_decide_div_mod_eq]
  unfold bitN at ha hb
  rw [ha,hb]
  rfl
 rw [hc] at h1
 simp at h1
theorem left_bit {C:Ch} {n k:Nat} {i:Int} (hk:k < 24) (hr:rchL C i ≠ -1) (hb:bitN n k=true) (hin:cIn C.sts (k:Int) (rchL C i)=true):bitN (leftN C n i) k=true:=by
 unfold leftN
 rw [if_neg hr]
 unfold bitN
 rw [bset_bit _ _ _ hk]
 unfold leftP
 rw [hb,hin]
 rfl
theorem kept_of {T:ByteArray→Int→Int→Bool} {C:Ch} (h:chk T C=.ok) {n:Nat} (hW:WB C.sts (bitN n) 0) {H:List Nat} (hH:HOk C.sts H) {l:List Int} (hl:∀ i ∈ l,isTr C.trs i=true∧hasS (bitN n) (trAt C.trs i).src=true)
 (hp:l.Pairwise fun i k=>leftN C n i &&& leftN C n k=0):KeptL C.sts (bitN n) (entL C H l):=by
 have hT:=tame_of h
 have hmem:∀ p ∈ entL C H l,∃ i ∈ l,(trAt C.trs i).tgts ≠ []∧p=(rchL C i,dSet C.sts H (rchL C i) (trAt C.trs i).tgts):=fun p hp=>by
  unfold entL at hp
  obtain ⟨i,hi,rfl⟩:=List.mem_map.1 hp
  obtain ⟨h1,h2⟩:=List.mem_filter.1 hi
  exact ⟨i,h1,by simpa using h2,rfl⟩
 have act:∀ i ∈ l,(trAt C.trs i).tgts ≠ []→hasS (bitN n) (rchL C i)=true:=fun i hi ht=>by
  obtain ⟨_,r2,r3,r4⟩:=reach_of h (hl i hi).1 ht
  rcases r4 with r4 | r4
  · rw [← r4]
    exact (hl i hi).2
  · exact WB.above hT hW _ _ _ (Nat.le_refl _) (hl i hi).2 r4
 refine ⟨fun p hp=>?_,fun p hp=>?_,?_⟩
 · obtain ⟨i,hi,ht,rfl⟩:=hmem p hp
   obtain ⟨_,r2,r3,r4⟩:=reach_of h (hl i hi).1 ht
   exact ⟨act i hi ht,r3⟩
 · obtain ⟨i,hi,ht,rfl⟩:=hmem p hp
   obtain ⟨r1,r2,r3,r4⟩:=reach_of h (hl i hi).1 ht
   exact dset_whole hT hH r1 r2 r3
 · unfold entL
   rw [List.pairwise_map]
   have hf:=List.Pairwise.filter (fun i=>decide ((trAt C.trs i).tgts ≠ [])) hp
   refine List.Pairwise.imp_of_mem (fun {i k} hi hk hik=>?_) hf
   obtain ⟨i1,i2⟩:=List.mem_filter.1 hi
   obtain ⟨k1,k2⟩:=List.mem_filter.1 hk
   have i2:(trAt C.trs i).tgts ≠ []:=by simpa using i2
   have k2:(trAt C.trs k).tgts ≠ []:=by simpa using k2
   obtain ⟨_,a2,a3,_⟩:=reach_of h (hl i i1).1 i2
   obtain ⟨_,b2,b3,_⟩:=reach_of h (hl k k1).1 k2
   refine reach_part hT hW (act i i1 i2) a3 (act k k1 k2) b3 a2 b2 fun y hy hyA y1 y2=>?_
   obtain ⟨j,rfl⟩:∃ j:Nat,y=(j:Int):=⟨y.toNat,by have:=isSt_iff.1 hy; omega⟩
   rw [hasS_nat] at hyA
   have hj:j < 24:=by have:=isSt_iff.1 hy; have:=hT.len; omega
   have ai:=(isSt_iff.1 a2).1
   have bi:=(isSt_iff.1 b2).1
   exact and_bits (left_bit hj (by omega) hyA y1) (left_bit hj (by omega) hyA y2) hik
theorem micro_whole {T:ByteArray→Int→Int→Bool} {C:Ch} (h:chk T C=.ok) {n:Nat} (hW:WB C.sts (bitN n) 0) {H:List Nat} (hH:HOk C.sts H) (env:List Int) (ev:Int) :
 WB C.sts (stepS C.sts (bitN n) (entL C H ((siL C (leftN C n) (gaL C env ev n).1).map (·.num)))) 0:=by
 have hT:=tame_of h
 obtain ⟨ha,hm⟩:=siL_apt C (leftN C n) (gaL C env ev n).1
 refine stepS_whole hT hW (kept_of h hW hH (fun i hi=>?_) ?_)
 · obtain ⟨x,hx,rfl⟩:=List.mem_map.1 hi
   obtain ⟨_,h2,h3⟩:=hm x hx
   exact ⟨h3,gaL_src env ev C hT n hW _ h2⟩
 · rw [List.pairwise_map]
   unfold Apt at ha
   refine List.Pairwise.imp_of_mem (fun {a b} hka hkb hab=>?_) ha
   have h1:=hab.1
   unfold clB at h1
   rw [(hm a hka).1,(hm b hkb).1] at h1
   exact Decidable.not_not.1 (of_decide_eq_false h1)
end Go.Proofs.YtmhkpjcdkjnlnaaGreatDoor
