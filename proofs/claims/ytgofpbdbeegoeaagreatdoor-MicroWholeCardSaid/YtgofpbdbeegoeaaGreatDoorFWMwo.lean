/- The contract of the document's Whole, at a set that is whole. -/
import Derived.Test.YtgofpbdbeegoeaaGreatDoorFWHpure
import Derived.Test.YtgofpbdbeegoeaaGreatDoorFWMsn
namespace Go.Proofs.YtgofpbdbeegoeaaGreatDoor
open Go.ChangeShapes Go.WideShapes Go.ChangeAt Go.RowKit
set_option linter.unusedVariables false

def cntK (A:Nat→Bool) (L:List Int):Nat:=(L.filter fun x=>hasS A x).length
theorem cntK_snoc (A:Nat→Bool) (L:List Int) (x:Int):cntK A (L ++ [x])=cntK A L+if hasS A x=true then 1 else 0:=by
 unfold cntK
 rw [List.filter_append,List.length_append]
 cases h:hasS A x <;> simp [h]
theorem cntK_le (A:Nat→Bool) (L:List Int):cntK A L≤L.length:=List.length_filter_le _ _
theorem kids_nodup (S:List St) (p:Int):(kids S p).Nodup:=by
 unfold kids kidsU
 refine List.Pairwise.map (R:=fun a b:Nat=>a ≠ b) _ (fun a b h h'=>h (by omega)) ?_
 exact List.Pairwise.filter _ List.nodup_range
theorem cntK_one {A:Nat→Bool} {k:Int}:∀ {L:List Int},L.Nodup→k ∈ L→hasS A k=true→(∀ k' ∈ L,hasS A k'=true→k'=k)→cntK A L=1
 | [],_,h,_,_=>by cases h
 | x :: L,hn,hk,hA,hu=>by
  have hn':=List.nodup_cons.1 hn
  by_cases hx:x=k
  · subst hx
    have hz:∀ y ∈ L,¬ hasS A y=true:=fun y hy hAy=>hn'.1 (by rw [← hu y (List.mem_cons_of_mem _ hy) hAy]; exact hy)
    unfold cntK
    rw [List.filter_cons,if_pos hA,List.filter_eq_nil_iff.2 hz]
    rfl
  · have hAx:¬ hasS A x=true:=fun h=>hx (hu x (List.mem_cons_self ..) h)
    have hkL:k ∈ L:=by rcases List.mem_cons.1 hk with h | h; exact absurd h.symm hx; exact h
    have ih:=cntK_one hn'.2 hkL hA fun k' hk' h=>hu k' (List.mem_cons_of_mem _ hk') h
    unfold cntK at ih ⊢
    rw [List.filter_cons,if_neg hAx]
    exact ih
theorem cntK_all {A:Nat→Bool} {L:List Int} (h:∀ k ∈ L,hasS A k=true):cntK A L=L.length:=by
 unfold cntK
 rw [List.filter_eq_self.2 h]
theorem has_set {S:List St} (A:Nat→Bool) (k:Nat) (hk:k < S.length):decide (bset A S.length / 2 ^ k % 2=1)=hasS A (k:Int):=by
 rw [bset_bit A _ k hk,hasS_nat]
 cases A k <;> simp
theorem has_none {S:List St} (A:Nat→Bool) (k:Nat) (hk:¬ k < S.length):decide (bset A S.length / 2 ^ k % 2=1)=false:=by
 rw [Nat.div_eq_of_lt (Nat.lt_of_lt_of_le (bset_lt A S.length) (Nat.pow_le_pow_right (by decide) (by omega)))]
 rfl
set_option maxHeartbeats 8000000 in
set_option maxRecDepth 100000 in
theorem rwhole_any (vr:Int) (vs vt:Value) (C:Ch) (A:Nat→Bool) (w:World) (hC:ChHas w vs vt C) (hta:Tame C.sts) (hW:WB C.sts A 0) :
 Calls Tryz.prog 11 #[.agg #[.int .i64 vr,vs,vt],.int .u32 ((bset A C.sts.length:Nat):Int)] w fun e w'=>e=.returned (.bool true)∧Below w.heap.size w w':=by
 have hlen:=hta.len
 have hpos:=hta.pos
 have HC:=Lib.hid hC
 have HTA:=Lib.hid hta
 have HW:=Lib.hid hW
 have hsm:=bset_u32 A (show C.sts.length≤31 by omega)
 have HHB:=Lib.hid (fun (k:Nat) (hk:k≤31) (W:World)=>hasBit_any (bset A C.sts.length) k hsm (by omega) W)
 have HHS:=Lib.hid (fun k hk=>has_set (S:=C.sts) A k hk)
 have HHN:=Lib.hid (fun k hk=>has_none (S:=C.sts) A k hk)
 have h00:hasS A ((0:Nat):Int)=true:=hW.1
 have HH0:=Lib.hid (HHB.out 0 (by omega))
 rw [HHS.out 0 hpos,h00] at HH0
 obtain ⟨b,o,scap,vi0,ve0,vx0,rfl,hscap,hbl,_,_⟩:=hC.st hpos
 generalize bset A C.sts.length=N at *
 clear hC hta hW h00
 go_enter Tryz.func11,Tryz.ntmps11
 go_wp2_with fail
 refine (HH0.out _).mono ?_
 rintro e w1 ⟨rfl,rfl⟩
 go_wp2_with fail
 go_loopw [5] (fun i wr=>∃ (k:Nat),k≤32∧i=.int .i64 (k:Int)∧Hid (Below (w.alloc (chBox vr (.slice (some ⟨b,o,none⟩) C.sts.length scap) vt)).heap.size (w.alloc (chBox vr (.slice (some ⟨b,o,none⟩) C.sts.length scap) vt)) wr)) (fun i _=>32 - (intOf i).toNat)
 case atStart=>exact ⟨0,Nat.zero_le _,rfl,Lib.hid (Below.refl _ _)⟩
 case round =>
  obtain ⟨k,hk,rfl,HB⟩:=hrel
  obtain ⟨wo,rfl⟩:∃ wo:World,wo=wr:=⟨_,rfl⟩
  obtain ⟨x0,x1,x2⟩:=box_later HB.out
  by_cases hlt:k < 32
  · by_cases hkn:k < C.sts.length
    · have HHK:=Lib.hid (HHB.out k (by omega) wo)
      rw [HHS.out k hkn] at HHK
      cases hAk:hasS A (k:Int) with
      | false =>
       rw [hAk] at HHK
       clear hAk
       go_wp2_with fail
       refine HHK.out.mono ?_
       rintro e w2 ⟨rfl,rfl⟩
       go_wp2_with fail
       go_roundw
       case rel=>exact ⟨k+1,by omega,by go_num,HB⟩
       case measure=>simp [intOf]; omega
      | true =>
       rw [hAk] at HHK
       have hs:=isSt_of hkn
       have hsub:Sub C.sts (k:Int) 0:=by
        by_cases hk0:k=0
        · left; omega
        · right; exact HTA.out.all _ hs (by omega)
       obtain ⟨g1,g2,g3,g4⟩:=HW.out.2 _ hs hAk hsub
       have hge:decide ((C.sts.length:Int)≤(k:Int))=false:=by simp; omega
       have HPA:=Lib.hid (past_any vr (.slice (some ⟨b,o,none⟩) C.sts.length scap) vt C k wo (HC.out.below (below_boxed HB.out)) (by omega) hkn)
       rw [g1] at HPA
       obtain ⟨vi,ve,vx,hst,_⟩:=HC.out.st' hkn
       have HSK:Hid (∀ W,Below w.heap.size w W→W.cell? ⟨b,o+k * 5,none⟩=some (.int .i64 (stAt C.sts (k:Int)).kind)∧W.cell? ⟨b,o+k * 5+1,none⟩=some (.int .i64 (stAt C.sts (k:Int)).par)):=Lib.hid (fun W hW=>⟨(hst.below hW hbl).1,(hst.below hW hbl).2.1⟩)
       have HKD:=Lib.hid (fun (W:World) (hW:Below w.heap.size w W)=>rkids_any vr (k:Int) (.slice (some ⟨b,o,none⟩) C.sts.length scap) vt C W (HC.out.below hW) (by omega))
       have HKN:=Lib.hid (kids_nodup C.sts (k:Int))
       have HKM:Hid (∀ x ∈ kids C.sts (k:Int),isSt C.sts x=true):=Lib.hid (fun x hx=>(kids_mem.1 hx).1)
       have hkl:=kids_len C.sts (k:Int)
       have HC2:Hid ((stAt C.sts (k:Int)).kind=2→cntK A (kids C.sts (k:Int))=1):=Lib.hid (fun h=>by
        obtain ⟨q,q1,q2,q3⟩:=g3 h
        exact cntK_one HKN.out q1 q2 q3)
       have HC3:Hid ((stAt C.sts (k:Int)).kind=3→cntK A (kids C.sts (k:Int))=(kids C.sts (k:Int)).length):=Lib.hid (fun h=>cntK_all (g4 h))
       have HPAR:Hid (k ≠ 0→∃ q:Nat,(stAt C.sts (k:Int)).par=(q:Int)∧q < C.sts.length∧hasS A (q:Int)=true):=Lib.hid (fun h0=>by
        have hu:=HTA.out.up _ hs (by omega)
        have hp:=HTA.out.par _ hs
        have hlt:=cUp_lt C.sts (k:Int)
        refine ⟨(cUp C.sts (k:Int)).toNat,by rw [hp]; omega,by omega,?_⟩
        rw [show (((cUp C.sts (k:Int)).toNat:Nat):Int)=cUp C.sts (k:Int) by omega]
        exact g2 (by omega))
       generalize kids C.sts (k:Int)=L at *
       generalize (stAt C.sts (k:Int)).kind=Ks at *
       generalize hPs:(stAt C.sts (k:Int)).par=Ps at *
       clear hAk hs hsub g1 g2 g3 g4 hst hPs
       go_wp2_with fail
       refine HHK.out.mono ?_
       rintro e w2 ⟨rfl,rfl⟩
       go_wp2_with fail
       refine HPA.out.mono ?_
       rintro e w3 ⟨rfl,hb3⟩
       have HB3:=Lib.hid (HB.out.trans (hb3.mono HB.out.size))
       obtain ⟨z0,z1,z2⟩:=box_later HB3.out
       obtain ⟨p0,p1⟩:=HSK.out _ (below_boxed HB3.out)
       clear hb3 x0 x1 x2 HHK HPA HB
       by_cases hk0:k=0
       · have hgt:¬ 0 < k:=by omega
         have hgt2:decide (0 < k)=false:=by simp; omega
         clear hk0
         go_wp2_with fail
         refine (HKD.out w3 (below_boxed HB3.out)).mono ?_
         rintro e w5 ⟨hb5,v5,rfl,ho5⟩
         have HB5:=Lib.hid (HB3.out.trans (hb5.mono HB3.out.size))
         have HL5:=Lib.hid (list_of_own ho5)
         obtain ⟨mA,mcap,rfl,hmc⟩:=RowsAt.slice HL5.out
         clear hb5 ho5 z0 z1 z2 p0 p1 HB3 HKD
         go_wp2_with fail
         go_loopw [8,9] (fun nv i wr=>∃ (m:Nat),m≤L.length∧i=.int .i64 (m:Int)∧nv=.int .i64 (cntK A (L.take m):Int)∧wr=w5) (fun _ i _=>L.length - (intOf i).toNat)
         case atStart=>exact ⟨0,Nat.zero_le _,rfl,rfl,rfl⟩
         case round =>
          obtain ⟨m,hm,rfl,rfl,rfl⟩:=hrel
          by_cases hlt2:m < L.length
          · obtain ⟨mb,mo,hmA,hmbl,hmc0⟩:=(let ⟨_,_,h1,_,h3⟩:=HL5.out; by injection h1 with e1 e2 e3; subst e1; exact h3 m _ (List.getElem?_eq_getElem hlt2):∃ b o,mA=some ⟨b,o,none⟩∧b < wr.heap.size∧(IntAt wr b (o+m * 1) L[m]))
            subst hmA
            obtain ⟨j,hj,hjn⟩:=isSt_nat (HKM.out L[m] (List.getElem_mem hlt2))
            have d0:wr.cell? ⟨mb,mo+m,none⟩=some (.int .i64 (j:Int)):=by have:=hmc0; unfold IntAt at this; rw [Nat.mul_one,hj] at this; exact this
            have HSN:Hid (cntK A (L.take (m+1))=cntK A (L.take m)+if hasS A (j:Int)=true then 1 else 0):=Lib.hid (by rw [List.take_succ_eq_append_getElem hlt2,cntK_snoc,hj])
            have hcl:cntK A (L.take m)≤24:=by have:=cntK_le A (L.take m); rw [List.length_take] at this; omega
            have HHJ:=Lib.hid (HHB.out j (by omega) wr)
            rw [HHS.out j hjn] at HHJ
            generalize cntK A (L.take m)=cc at *
            clear hmc0 hj
            cases hAj:hasS A (j:Int) with
            | true =>
             rw [hAj] at HHJ
             rw [hAj,if_pos rfl] at HSN
             clear hAj
             go_wp2_with fail
             refine HHJ.out.mono ?_
             rintro e w6 ⟨rfl,rfl⟩
             go_wp2_with fail
             go_roundw
             case rel=>exact ⟨m+1,by omega,by go_num,by rw [HSN.out]; go_num,trivial⟩
             case measure=>simp [intOf]; omega
            | false =>
             rw [hAj] at HHJ
             rw [hAj,if_neg (by simp)] at HSN
             clear hAj
             go_wp2_with fail
             refine HHJ.out.mono ?_
             rintro e w6 ⟨rfl,rfl⟩
             go_wp2_with fail
             go_roundw
             case rel=>exact ⟨m+1,by omega,by go_num,by rw [HSN.out]; rfl,trivial⟩
             case measure=>simp [intOf]; omega
          · obtain rfl:m=L.length:=by omega
            rw [List.take_length]
            obtain ⟨z0,z1,z2⟩:=box_later HB5.out
            obtain ⟨p0,p1⟩:=HSK.out _ (below_boxed HB5.out)
            by_cases h2:Ks=2
            · rw [HC2.out h2]
              have h2b:(Ks == 2)=true:=by simpa using h2
              have h3b:(Ks == 3)=false:=by rw [h2]; rfl
              clear h2
              go_wp2_with fail
              go_roundw
              case rel=>exact ⟨k+1,by omega,by go_num,HB5⟩
              case measure=>simp [intOf]; omega
            · have h2b:(Ks == 2)=false:=by simpa using h2
              by_cases h3:Ks=3
              · rw [HC3.out h3]
                have h3b:(Ks == 3)=true:=by simpa using h3
                clear h2 h3
                go_wp2_with fail
                go_roundw
                case rel=>exact ⟨k+1,by omega,by go_num,HB5⟩
                case measure=>simp [intOf]; omega
              · have h3b:(Ks == 3)=false:=by simpa using h3
                clear h2 h3
                go_wp2_with fail
                go_roundw
                case rel=>exact ⟨k+1,by omega,by go_num,HB5⟩
                case measure=>simp [intOf]; omega
       · obtain ⟨q,rfl,hqn,hAq⟩:=HPAR.out hk0
         have hgt:0 < k:=by omega
         have HHQ:=Lib.hid (HHB.out q (by omega) w3)
         rw [HHS.out q hqn,hAq] at HHQ
         clear hk0 hAq
         go_wp2_with fail
         refine HHQ.out.mono ?_
         rintro e w4 ⟨rfl,rfl⟩
         go_wp2_with fail
         refine (HKD.out w3 (below_boxed HB3.out)).mono ?_
         rintro e w5 ⟨hb5,v5,rfl,ho5⟩
         have HB5:=Lib.hid (HB3.out.trans (hb5.mono HB3.out.size))
         have HL5:=Lib.hid (list_of_own ho5)
         obtain ⟨mA,mcap,rfl,hmc⟩:=RowsAt.slice HL5.out
         clear hb5 ho5 z0 z1 z2 p0 p1 HB3 HKD
         go_wp2_with fail
         go_loopw [8,9] (fun nv i wr=>∃ (m:Nat),m≤L.length∧i=.int .i64 (m:Int)∧nv=.int .i64 (cntK A (L.take m):Int)∧wr=w5) (fun _ i _=>L.length - (intOf i).toNat)
         case atStart=>exact ⟨0,Nat.zero_le _,rfl,rfl,rfl⟩
         case round =>
          obtain ⟨m,hm,rfl,rfl,rfl⟩:=hrel
          by_cases hlt2:m < L.length
          · obtain ⟨mb,mo,hmA,hmbl,hmc0⟩:=(let ⟨_,_,h1,_,h3⟩:=HL5.out; by injection h1 with e1 e2 e3; subst e1; exact h3 m _ (List.getElem?_eq_getElem hlt2):∃ b o,mA=some ⟨b,o,none⟩∧b < wr.heap.size∧(IntAt wr b (o+m * 1) L[m]))
            subst hmA
            obtain ⟨j,hj,hjn⟩:=isSt_nat (HKM.out L[m] (List.getElem_mem hlt2))
            have d0:wr.cell? ⟨mb,mo+m,none⟩=some (.int .i64 (j:Int)):=by have:=hmc0; unfold IntAt at this; rw [Nat.mul_one,hj] at this; exact this
            have HSN:Hid (cntK A (L.take (m+1))=cntK A (L.take m)+if hasS A (j:Int)=true then 1 else 0):=Lib.hid (by rw [List.take_succ_eq_append_getElem hlt2,cntK_snoc,hj])
            have hcl:cntK A (L.take m)≤24:=by have:=cntK_le A (L.take m); rw [List.length_take] at this; omega
            have HHJ:=Lib.hid (HHB.out j (by omega) wr)
            rw [HHS.out j hjn] at HHJ
            generalize cntK A (L.take m)=cc at *
            clear hmc0 hj
            cases hAj:hasS A (j:Int) with
            | true =>
             rw [hAj] at HHJ
             rw [hAj,if_pos rfl] at HSN
             clear hAj
             go_wp2_with fail
             refine HHJ.out.mono ?_
             rintro e w6 ⟨rfl,rfl⟩
             go_wp2_with fail
             go_roundw
             case rel=>exact ⟨m+1,by omega,by go_num,by rw [HSN.out]; go_num,trivial⟩
             case measure=>simp [intOf]; omega
            | false =>
             rw [hAj] at HHJ
             rw [hAj,if_neg (by simp)] at HSN
             clear hAj
             go_wp2_with fail
             refine HHJ.out.mono ?_
             rintro e w6 ⟨rfl,rfl⟩
             go_wp2_with fail
             go_roundw
             case rel=>exact ⟨m+1,by omega,by go_num,by rw [HSN.out]; rfl,trivial⟩
             case measure=>simp [intOf]; omega
          · obtain rfl:m=L.length:=by omega
            rw [List.take_length]
            obtain ⟨z0,z1,z2⟩:=box_later HB5.out
            obtain ⟨p0,p1⟩:=HSK.out _ (below_boxed HB5.out)
            by_cases h2:Ks=2
            · rw [HC2.out h2]
              have h2b:(Ks == 2)=true:=by simpa using h2
              have h3b:(Ks == 3)=false:=by rw [h2]; rfl
              clear h2
              go_wp2_with fail
              go_roundw
              case rel=>exact ⟨k+1,by omega,by go_num,HB5⟩
              case measure=>simp [intOf]; omega
            · have h2b:(Ks == 2)=false:=by simpa using h2
              by_cases h3:Ks=3
              · rw [HC3.out h3]
                have h3b:(Ks == 3)=true:=by simpa using h3
                clear h2 h3
                go_wp2_with fail
                go_roundw
                case rel=>exact ⟨k+1,by omega,by go_num,HB5⟩
                case measure=>simp [intOf]; omega
              · have h3b:(Ks == 3)=false:=by simpa using h3
                clear h2 h3
                go_wp2_with fail
                go_roundw
                case rel=>exact ⟨k+1,by omega,by go_num,HB5⟩
                case measure=>simp [intOf]; omega
    · have HHK:=Lib.hid (HHB.out k (by omega) wo)
      rw [HHN.out k hkn] at HHK
      go_wp2_with fail
      refine HHK.out.mono ?_
      rintro e w2 ⟨rfl,rfl⟩
      go_wp2_with fail
      go_roundw
      case rel=>exact ⟨k+1,by omega,by go_num,HB⟩
      case measure=>simp [intOf]; omega
  · obtain rfl:k=32:=by omega
    go_wp2_with fail
    go_ret
    exact ⟨rfl,below_boxed HB.out⟩

theorem cntK_uniq {A:Nat→Bool}:∀ {L:List Int},cntK A L=1→∃ q ∈ L,hasS A q=true∧∀ k ∈ L,hasS A k=true→k=q
 | [],h=>by simp [cntK] at h
 | x :: L,h=>by
  unfold cntK at h
  rw [List.filter_cons] at h
  by_cases hx:hasS A x=true
  · rw [if_pos hx,List.length_cons] at h
    have hz:L.filter (fun x=>hasS A x)=[]:=List.eq_nil_of_length_eq_zero (by omega)
    refine ⟨x,List.mem_cons_self ..,hx,fun k hk hA=>?_⟩
    rcases List.mem_cons.1 hk with rfl | hk
    · rfl
    · exact absurd hA (List.filter_eq_nil_iff.1 hz k hk)
  · rw [if_neg hx] at h
    obtain ⟨q,h1,h2,h3⟩:=cntK_uniq (A:=A) (L:=L) h
    refine ⟨q,List.mem_cons_of_mem _ h1,h2,fun k hk hA=>?_⟩
    rcases List.mem_cons.1 hk with rfl | hk
    · exact absurd hA hx
    · exact h3 k hk hA
theorem cntK_full {A:Nat→Bool} {L:List Int} (h:cntK A L=L.length):∀ k ∈ L,hasS A k=true:=by
 unfold cntK at h
 exact List.filter_eq_self.1 (List.Sublist.eq_of_length List.filter_sublist h)
structure WhAt (S:List St) (n k:Nat):Prop where
 st:k < S.length
 hi:histB (stAt S (k:Int)).kind=false
 up:k ≠ 0→hasS (bitN n) (stAt S (k:Int)).par=true
 two:(stAt S (k:Int)).kind=2→cntK (bitN n) (kids S (k:Int))=1
 three:(stAt S (k:Int)).kind=3→cntK (bitN n) (kids S (k:Int))=(kids S (k:Int)).length
theorem wb_of {S:List St} (hT:Tame S) {n:Nat} (h0:bitN n 0=true) (h:∀ k,k < 32→bitN n k=true→WhAt S n k):WB S (bitN n) 0:=by
 refine ⟨by rw [show (0:Int)=((0:Nat):Int) from rfl,hasS_nat]; exact h0,fun x hx hA _=>?_⟩
 obtain ⟨k,rfl,hk⟩:=isSt_nat hx
 rw [hasS_nat] at hA
 have hw:=h k (by have:=hT.len; omega) hA
 refine ⟨hw.hi,fun hne=>?_,fun h2=>cntK_uniq (hw.two h2),fun h3=>cntK_full (hw.three h3)⟩
 rw [← hT.par _ hx]
 exact hw.up (by omega)
def WhPost (S:List St) (n:Nat) (w:World) (e:Ending) (w':World):Prop:=Below w.heap.size w w'∧∃ bb,e=.returned (.bool bb)∧(bb=true→WB S (bitN n) 0∧∀ k,k < 32→bitN n k=true→k < S.length)
theorem WhPost.no {S:List St} {n:Nat} {w w':World} {e:Ending} (he:e=.returned (.bool false)) (hb:Below w.heap.size w w'):WhPost S n w e w':=⟨hb,false,he,fun h=>by cases h⟩
theorem WhPost.yes {S:List St} {n:Nat} {w w':World} {e:Ending} (he:e=.returned (.bool true)) (hb:Below w.heap.size w w') (h1:WB S (bitN n) 0) (h2:∀ k,k < 32→bitN n k=true→k < S.length):WhPost S n w e w':=⟨hb,true,he,fun _=>⟨h1,h2⟩⟩
set_option maxHeartbeats 8000000 in
set_option maxRecDepth 100000 in
theorem rwhole_if (vr:Int) (vs vt:Value) (C:Ch) (n:Nat) (w:World) (hC:ChHas w vs vt C) (hta:Tame C.sts) (hn:n < 4294967296) :
 Calls Tryz.prog 11 #[.agg #[.int .i64 vr,vs,vt],.int .u32 (n:Int)] w (WhPost C.sts n w):=by
 have hlen:=hta.len
 have hpos:=hta.pos
 have HC:=Lib.hid hC
 have HTA:=Lib.hid hta
 have HHB:Hid (∀ (k:Nat) (hk:k≤31) (W:World),Calls Tryz.prog 31 #[.int .u32 (n:Int),.int .i64 (k:Int)] W fun e w'=>e=.returned (.bool (bitN n k))∧W=w'):=Lib.hid (fun (k:Nat) (hk:k≤31) (W:World)=>hasBit_any n k hn (by omega) W)
 have HH0:=Lib.hid (HHB.out 0 (by omega))
 obtain ⟨b,o,scap,vi0,ve0,vx0,rfl,hscap,hbl,_,_⟩:=hC.st hpos
 clear hC hta
 go_enter Tryz.func11,Tryz.ntmps11
 go_wp2_with fail
 refine (HH0.out _).mono ?_
 rintro e w1 ⟨rfl,rfl⟩
 cases h00:bitN n 0 with
 | false =>
  go_wp2_with fail
  go_ret
  exact .no rfl (below_boxed (Below.refl _ _))
 | true =>
  have H00:=Lib.hid h00
  clear h00
  go_wp2_with fail
  go_loopw [5] (fun i wr=>∃ (k:Nat),k≤32∧i=.int .i64 (k:Int)∧Hid (∀ j,j < k→bitN n j=true→WhAt C.sts n j)∧Hid (Below (w.alloc (chBox vr (.slice (some ⟨b,o,none⟩) C.sts.length scap) vt)).heap.size (w.alloc (chBox vr (.slice (some ⟨b,o,none⟩) C.sts.length scap) vt)) wr)) (fun i _=>32 - (intOf i).toNat)
  case atStart=>exact ⟨0,Nat.zero_le _,rfl,Lib.hid (fun j hj=>by omega),Lib.hid (Below.refl _ _)⟩
  case round =>
   obtain ⟨k,hk,rfl,HK,HB⟩:=hrel
   obtain ⟨wo,rfl⟩:∃ wo:World,wo=wr:=⟨_,rfl⟩
   obtain ⟨x0,x1,x2⟩:=box_later HB.out
   by_cases hlt:k < 32
   · have HHK:=Lib.hid (HHB.out k (by omega) wo)
     cases hAk:bitN n k with
     | false =>
      rw [hAk] at HHK
      have HN:Hid (∀ j,j < k+1→bitN n j=true→WhAt C.sts n j):=Lib.hid (fun j hj hb=>by
       by_cases he:j=k
       · rw [he,hAk] at hb; cases hb
       · exact HK.out j (by omega) hb)
      clear hAk
      go_wp2_with fail
      refine HHK.out.mono ?_
      rintro e w2 ⟨rfl,rfl⟩
      go_wp2_with fail
      go_roundw
      case rel=>exact ⟨k+1,by omega,by go_num,HN,HB⟩
      case measure=>simp [intOf]; omega
     | true =>
      rw [hAk] at HHK
      by_cases hkn:k < C.sts.length
      · have hs:=isSt_of hkn
        have hge:decide ((C.sts.length:Int)≤(k:Int))=false:=by simp; omega
        have HPA:=Lib.hid (past_any vr (.slice (some ⟨b,o,none⟩) C.sts.length scap) vt C k wo (HC.out.below (below_boxed HB.out)) (by omega) hkn)
        obtain ⟨vi,ve,vx,hst,_⟩:=HC.out.st' hkn
        have HSK:Hid (∀ W,Below w.heap.size w W→W.cell? ⟨b,o+k * 5,none⟩=some (.int .i64 (stAt C.sts (k:Int)).kind)∧W.cell? ⟨b,o+k * 5+1,none⟩=some (.int .i64 (stAt C.sts (k:Int)).par)):=Lib.hid (fun W hW=>⟨(hst.below hW hbl).1,(hst.below hW hbl).2.1⟩)
        have HKD:=Lib.hid (fun (W:World) (hW:Below w.heap.size w W)=>rkids_any vr (k:Int) (.slice (some ⟨b,o,none⟩) C.sts.length scap) vt C W (HC.out.below hW) (by omega))
        have HKM:Hid (∀ x ∈ kids C.sts (k:Int),isSt C.sts x=true):=Lib.hid (fun x hx=>(kids_mem.1 hx).1)
        have hkl:=kids_len C.sts (k:Int)
        have HNXT:Hid (histB (stAt C.sts (k:Int)).kind=false→(k ≠ 0→hasS (bitN n) (stAt C.sts (k:Int)).par=true)→((stAt C.sts (k:Int)).kind=2→cntK (bitN n) (kids C.sts (k:Int))=1)→((stAt C.sts (k:Int)).kind=3→cntK (bitN n) (kids C.sts (k:Int))=(kids C.sts (k:Int)).length)→∀ j,j < k+1→bitN n j=true→WhAt C.sts n j):=Lib.hid (fun g1 g2 g3 g4 j hj hb=>by
         by_cases he:j=k
         · subst he
           exact ⟨hkn,g1,g2,g3,g4⟩
         · exact HK.out j (by omega) hb)
        have HPAR:Hid (k ≠ 0→∃ q:Nat,(stAt C.sts (k:Int)).par=(q:Int)∧q < C.sts.length):=Lib.hid (fun h0=>by
         have hu:=HTA.out.up _ hs (by omega)
         have hp:=HTA.out.par _ hs
         have hlt:=cUp_lt C.sts (k:Int)
         exact ⟨(cUp C.sts (k:Int)).toNat,by rw [hp]; omega,by omega⟩)
        generalize kids C.sts (k:Int)=L at *
        generalize (stAt C.sts (k:Int)).kind=Ks at *
        generalize hPs:(stAt C.sts (k:Int)).par=Ps at *
        clear hAk hs hst hPs HK
        cases hhi:histB Ks with
        | true =>
         rw [hhi] at HPA
         clear hhi
         go_wp2_with fail
         refine HHK.out.mono ?_
         rintro e w2 ⟨rfl,rfl⟩
         go_wp2_with fail
         refine HPA.out.mono ?_
         rintro e w3 ⟨rfl,hb3⟩
         have HB3:=Lib.hid (HB.out.trans (hb3.mono HB.out.size))
         clear hb3
         go_wp2_with fail
         go_ret
         exact .no rfl (below_boxed HB3.out)
        | false =>
         rw [hhi] at HPA
         have HNX2:=Lib.hid (HNXT.out hhi)
         clear hhi HNXT
         go_wp2_with fail
         refine HHK.out.mono ?_
         rintro e w2 ⟨rfl,rfl⟩
         go_wp2_with fail
         refine HPA.out.mono ?_
         rintro e w3 ⟨rfl,hb3⟩
         have HB3:=Lib.hid (HB.out.trans (hb3.mono HB.out.size))
         obtain ⟨z0,z1,z2⟩:=box_later HB3.out
         obtain ⟨p0,p1⟩:=HSK.out _ (below_boxed HB3.out)
         clear hb3 x0 x1 x2 HHK HPA HB
         by_cases hk0:k=0
         · have HNEXT:=Lib.hid (HNX2.out (fun h=>absurd hk0 h))
           have hgt:¬ 0 < k:=by omega
           have hgt2:decide (0 < k)=false:=by simp; omega
           clear hk0
           go_wp2_with fail
           refine (HKD.out w3 (below_boxed HB3.out)).mono ?_
           rintro e w5 ⟨hb5,v5,rfl,ho5⟩
           have HB5:=Lib.hid (HB3.out.trans (hb5.mono HB3.out.size))
           have HL5:=Lib.hid (list_of_own ho5)
           obtain ⟨mA,mcap,rfl,hmc⟩:=RowsAt.slice HL5.out
           clear hb5 ho5 z0 z1 z2 p0 p1 HB3 HKD
           go_wp2_with fail
           go_loopw [8,9] (fun nv i wr=>∃ (m:Nat),m≤L.length∧i=.int .i64 (m:Int)∧nv=.int .i64 (cntK (bitN n) (L.take m):Int)∧wr=w5) (fun _ i _=>L.length - (intOf i).toNat)
           case atStart=>exact ⟨0,Nat.zero_le _,rfl,rfl,rfl⟩
           case round =>
            obtain ⟨m,hm,rfl,rfl,rfl⟩:=hrel
            by_cases hlt2:m < L.length
            · obtain ⟨mb,mo,hmA,hmbl,hmc0⟩:=(let ⟨_,_,h1,_,h3⟩:=HL5.out; by injection h1 with e1 e2 e3; subst e1; exact h3 m _ (List.getElem?_eq_getElem hlt2):∃ b o,mA=some ⟨b,o,none⟩∧b < wr.heap.size∧(IntAt wr b (o+m * 1) L[m]))
              subst hmA
              obtain ⟨j,hj,hjn⟩:=isSt_nat (HKM.out L[m] (List.getElem_mem hlt2))
              have d0:wr.cell? ⟨mb,mo+m,none⟩=some (.int .i64 (j:Int)):=by have:=hmc0; unfold IntAt at this; rw [Nat.mul_one,hj] at this; exact this
              have HSN:Hid (cntK (bitN n) (L.take (m+1))=cntK (bitN n) (L.take m)+if bitN n j=true then 1 else 0):=Lib.hid (by rw [List.take_succ_eq_append_getElem hlt2,cntK_snoc,hj,hasS_nat])
              have hcl:cntK (bitN n) (L.take m)≤24:=by have:=cntK_le (bitN n) (L.take m); rw [List.length_take] at this; omega
              have HHJ:=Lib.hid (HHB.out j (by omega) wr)
              generalize cntK (bitN n) (L.take m)=cc at *
              clear hmc0 hj
              cases hAj:bitN n j with
              | true =>
               rw [hAj] at HHJ
               rw [hAj,if_pos rfl] at HSN
               clear hAj
               go_wp2_with fail
               refine HHJ.out.mono ?_
               rintro e w6 ⟨rfl,rfl⟩
               go_wp2_with fail
               go_roundw
               case rel=>exact ⟨m+1,by omega,by go_num,by rw [HSN.out]; go_num,trivial⟩
               case measure=>simp [intOf]; omega
              | false =>
               rw [hAj] at HHJ
               rw [hAj,if_neg (by simp)] at HSN
               clear hAj
               go_wp2_with fail
               refine HHJ.out.mono ?_
               rintro e w6 ⟨rfl,rfl⟩
               go_wp2_with fail
               go_roundw
               case rel=>exact ⟨m+1,by omega,by go_num,by rw [HSN.out]; rfl,trivial⟩
               case measure=>simp [intOf]; omega
            · obtain rfl:m=L.length:=by omega
              rw [List.take_length]
              obtain ⟨z0,z1,z2⟩:=box_later HB5.out
              obtain ⟨p0,p1⟩:=HSK.out _ (below_boxed HB5.out)
              have hcl:cntK (bitN n) L≤24:=by have:=cntK_le (bitN n) L; omega
              generalize cntK (bitN n) L=cc at *
              by_cases h2:Ks=2
              · have h2b:(Ks == 2)=true:=by simpa using h2
                have h3b:(Ks == 3)=false:=by rw [h2]; rfl
                by_cases hc:cc=1
                · have HN:=Lib.hid (HNEXT.out (fun _=>hc) (fun h=>by omega))
                  have hcb:((cc:Int) != 1)=false:=by simp; omega
                  clear h2 hc
                  go_wp2_with fail
                  go_roundw
                  case rel=>exact ⟨k+1,by omega,by go_num,HN,HB5⟩
                  case measure=>simp [intOf]; omega
                · have hcb:((cc:Int) != 1)=true:=by simp; omega
                  clear h2 hc
                  go_wp2_with fail
                  go_ret
                  exact .no rfl (below_boxed HB5.out)
              · have h2b:(Ks == 2)=false:=by simpa using h2
                by_cases h3:Ks=3
                · have h3b:(Ks == 3)=true:=by simpa using h3
                  by_cases hc:cc=L.length
                  · have HN:=Lib.hid (HNEXT.out (fun h=>absurd h h2) (fun _=>hc))
                    have hcb:((cc:Int) != (L.length:Int))=false:=by simp; omega
                    clear h2 h3 hc
                    go_wp2_with fail
                    go_roundw
                    case rel=>exact ⟨k+1,by omega,by go_num,HN,HB5⟩
                    case measure=>simp [intOf]; omega
                  · have hcb:((cc:Int) != (L.length:Int))=true:=by simp; omega
                    clear h2 h3 hc
                    go_wp2_with fail
                    go_ret
                    exact .no rfl (below_boxed HB5.out)
                · have h3b:(Ks == 3)=false:=by simpa using h3
                  have HN:=Lib.hid (HNEXT.out (fun h=>absurd h h2) (fun h=>absurd h h3))
                  clear h2 h3
                  go_wp2_with fail
                  go_roundw
                  case rel=>exact ⟨k+1,by omega,by go_num,HN,HB5⟩
                  case measure=>simp [intOf]; omega
         · obtain ⟨q,rfl,hqn⟩:=HPAR.out hk0
           have hgt:0 < k:=by omega
           have HHQ:=Lib.hid (HHB.out q (by omega) w3)
           clear hk0
           cases hAq:bitN n q with
           | false =>
            rw [hAq] at HHQ
            clear hAq
            go_wp2_with fail
            refine HHQ.out.mono ?_
            rintro e w4 ⟨rfl,rfl⟩
            go_wp2_with fail
            go_ret
            exact .no rfl (below_boxed HB3.out)
           | true =>
            rw [hAq] at HHQ
            have HNEXT:=Lib.hid (HNX2.out (fun _=>by rw [hasS_nat]; exact hAq))
            clear hAq
            go_wp2_with fail
            refine HHQ.out.mono ?_
            rintro e w4 ⟨rfl,rfl⟩
            go_wp2_with fail
            refine (HKD.out w3 (below_boxed HB3.out)).mono ?_
            rintro e w5 ⟨hb5,v5,rfl,ho5⟩
            have HB5:=Lib.hid (HB3.out.trans (hb5.mono HB3.out.size))
            have HL5:=Lib.hid (list_of_own ho5)
            obtain ⟨mA,mcap,rfl,hmc⟩:=RowsAt.slice HL5.out
            clear hb5 ho5 z0 z1 z2 p0 p1 HB3 HKD
            go_wp2_with fail
            go_loopw [8,9] (fun nv i wr=>∃ (m:Nat),m≤L.length∧i=.int .i64 (m:Int)∧nv=.int .i64 (cntK (bitN n) (L.take m):Int)∧wr=w5) (fun _ i _=>L.length - (intOf i).toNat)
            case atStart=>exact ⟨0,Nat.zero_le _,rfl,rfl,rfl⟩
            case round =>
             obtain ⟨m,hm,rfl,rfl,rfl⟩:=hrel
             by_cases hlt2:m < L.length
             · obtain ⟨mb,mo,hmA,hmbl,hmc0⟩:=(let ⟨_,_,h1,_,h3⟩:=HL5.out; by injection h1 with e1 e2 e3; subst e1; exact h3 m _ (List.getElem?_eq_getElem hlt2):∃ b o,mA=some ⟨b,o,none⟩∧b < wr.heap.size∧(IntAt wr b (o+m * 1) L[m]))
               subst hmA
               obtain ⟨j,hj,hjn⟩:=isSt_nat (HKM.out L[m] (List.getElem_mem hlt2))
               have d0:wr.cell? ⟨mb,mo+m,none⟩=some (.int .i64 (j:Int)):=by have:=hmc0; unfold IntAt at this; rw [Nat.mul_one,hj] at this; exact this
               have HSN:Hid (cntK (bitN n) (L.take (m+1))=cntK (bitN n) (L.take m)+if bitN n j=true then 1 else 0):=Lib.hid (by rw [List.take_succ_eq_append_getElem hlt2,cntK_snoc,hj,hasS_nat])
               have hcl:cntK (bitN n) (L.take m)≤24:=by have:=cntK_le (bitN n) (L.take m); rw [List.length_take] at this; omega
               have HHJ:=Lib.hid (HHB.out j (by omega) wr)
               generalize cntK (bitN n) (L.take m)=cc at *
               clear hmc0 hj
               cases hAj:bitN n j with
               | true =>
                rw [hAj] at HHJ
                rw [hAj,if_pos rfl] at HSN
                clear hAj
                go_wp2_with fail
                refine HHJ.out.mono ?_
                rintro e w6 ⟨rfl,rfl⟩
                go_wp2_with fail
                go_roundw
                case rel=>exact ⟨m+1,by omega,by go_num,by rw [HSN.out]; go_num,trivial⟩
                case measure=>simp [intOf]; omega
               | false =>
                rw [hAj] at HHJ
                rw [hAj,if_neg (by simp)] at HSN
                clear hAj
                go_wp2_with fail
                refine HHJ.out.mono ?_
                rintro e w6 ⟨rfl,rfl⟩
                go_wp2_with fail
                go_roundw
                case rel=>exact ⟨m+1,by omega,by go_num,by rw [HSN.out]; rfl,trivial⟩
                case measure=>simp [intOf]; omega
             · obtain rfl:m=L.length:=by omega
               rw [List.take_length]
               obtain ⟨z0,z1,z2⟩:=box_later HB5.out
               obtain ⟨p0,p1⟩:=HSK.out _ (below_boxed HB5.out)
               have hcl:cntK (bitN n) L≤24:=by have:=cntK_le (bitN n) L; omega
               generalize cntK (bitN n) L=cc at *
               by_cases h2:Ks=2
               · have h2b:(Ks == 2)=true:=by simpa using h2
                 have h3b:(Ks == 3)=false:=by rw [h2]; rfl
                 by_cases hc:cc=1
                 · have HN:=Lib.hid (HNEXT.out (fun _=>hc) (fun h=>by omega))
                   have hcb:((cc:Int) != 1)=false:=by simp; omega
                   clear h2 hc
                   go_wp2_with fail
                   go_roundw
                   case rel=>exact ⟨k+1,by omega,by go_num,HN,HB5⟩
                   case measure=>simp [intOf]; omega
                 · have hcb:((cc:Int) != 1)=true:=by simp; omega
                   clear h2 hc
                   go_wp2_with fail
                   go_ret
                   exact .no rfl (below_boxed HB5.out)
               · have h2b:(Ks == 2)=false:=by simpa using h2
                 by_cases h3:Ks=3
                 · have h3b:(Ks == 3)=true:=by simpa using h3
                   by_cases hc:cc=L.length
                   · have HN:=Lib.hid (HNEXT.out (fun h=>absurd h h2) (fun _=>hc))
                     have hcb:((cc:Int) != (L.length:Int))=false:=by simp; omega
                     clear h2 h3 hc
                     go_wp2_with fail
                     go_roundw
                     case rel=>exact ⟨k+1,by omega,by go_num,HN,HB5⟩
                     case measure=>simp [intOf]; omega
                   · have hcb:((cc:Int) != (L.length:Int))=true:=by simp; omega
                     clear h2 h3 hc
                     go_wp2_with fail
                     go_ret
                     exact .no rfl (below_boxed HB5.out)
                 · have h3b:(Ks == 3)=false:=by simpa using h3
                   have HN:=Lib.hid (HNEXT.out (fun h=>absurd h h2) (fun h=>absurd h h3))
                   clear h2 h3
                   go_wp2_with fail
                   go_roundw
                   case rel=>exact ⟨k+1,by omega,by go_num,HN,HB5⟩
                   case measure=>simp [intOf]; omega
      · have hge:decide ((C.sts.length:Int)≤(k:Int))=true:=by simp; omega
        have hge2:(C.sts.length:Int)≤(k:Int):=by omega
        go_wp2_with fail
        refine HHK.out.mono ?_
        rintro e w2 ⟨rfl,rfl⟩
        go_wp2_with fail
        go_ret
        exact .no rfl (below_boxed HB.out)
   · obtain rfl:k=32:=by omega
     go_wp2_with fail
     go_ret
     exact .yes rfl (below_boxed HB.out) (wb_of HTA.out H00.out HK.out) (fun k hk hb=>(HK.out k hk hb).st)
end Go.Proofs.YtgofpbdbeegoeaaGreatDoor
