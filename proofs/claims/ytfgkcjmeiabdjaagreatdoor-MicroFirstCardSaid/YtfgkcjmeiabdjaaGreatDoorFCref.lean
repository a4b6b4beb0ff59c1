/- The contracts of chart.Kids, and of the document's Kids and Ints: a state's children. -/
import Derived.Test.YtfgkcjmeiabdjaaGreatDoorFCs
import Derived.Test.YtfgkcjmeiabdjaaGreatDoorFEtype
namespace Go.Proofs.YtfgkcjmeiabdjaaGreatDoor
open Go.ChangeShapes Go.WideShapes Go.ChangeAt Go.RowKit
set_option linter.unusedVariables false

def KPost (L:List Int) (w:World) (e:Ending) (w':World):Prop:=Below w.heap.size w w'∧∃ v,e=.returned v∧w'.ownsRow w.heap.size 3 1 v L.length (intVals L)
theorem new_val (w:World) (s:Value) (t:TypeId) (g:Nat) (hg:w.heap.size=g):∀ j u,[s][j]?=some u→(w.alloc (.cells #[s] t)).cell? ((⟨g,0,none⟩:Addr).add j)=some u:=by
  subst hg
  intro j u hj
  cases j with
  | zero =>
    simp at hj
    subst hj
    exact (Blk.new w t #[s]).cell 0
  | succ j=>simp at hj
theorem own_lower {w:World} {B B':Nat} {e:TypeId} {s n:Nat} {v:Value} {xs:List Value} (h:w.ownsRow B e s v n xs) (hB:B'≤B):w.ownsRow B' e s v n xs:=by
  refine ⟨h.1,?_⟩
  rcases h.2 with h2 | ⟨a,b,c,h1,h2,h3⟩
  · exact .inl h2
  · exact .inr ⟨a,b,c,h1,Nat.le_trans hB h2,h3⟩
theorem kidB_no {S:List St} {s:Int} {k:Nat} (h:¬ (stAt S (k:Int)).par=s ∨ histB (stAt S (k:Int)).kind=true):kidB S s k=false:=by
  unfold kidB
  rcases h with h | h
  · simp [h]
  · rw [h]; simp
theorem kidB_yes {S:List St} {s:Int} {k:Nat} (h1:(stAt S (k:Int)).par=s) (h:histB (stAt S (k:Int)).kind=false):kidB S s k=true:=by
  unfold kidB
  rw [h]; simp [h1]
theorem kids_no {S:List St} {s:Int} {k:Nat} (h:kidB S s k=false):kidsU S s (k+1)=kidsU S s k:=by rw [kidsU_succ,if_neg (by rw [h]; simp),List.append_nil]
theorem kids_yes {S:List St} {s:Int} {k:Nat} (h:kidB S s k=true):kidsU S s (k+1)=kidsU S s k ++ [(k:Int)]:=by rw [kidsU_succ,if_pos h]
theorem intVals_snoc (L:List Int) (x:Int):intVals (L ++ [x])=intVals L ++ [.int .i64 x]:=by simp [intVals]
set_option maxHeartbeats 4000000 in
set_option maxRecDepth 100000 in
theorem kids_any (vr s:Int) (vs vt:Value) (C:Ch) (w:World) (hC:ChHas w vs vt C) (hl:C.sts.length≤1000) :
    Calls Tryz.prog 97 #[.agg #[.int .i64 vr,vs,vt],.int .i64 s] w (KPost (kids C.sts s) w):=by
  obtain ⟨i0,hi,hz0,hz1,hz2⟩:=info_parts Tryz.info3
  have HI:=Lib.hid hi
  have HZ0:=Lib.hid hz0
  have HZ1:=Lib.hid hz1
  have HZ2:=Lib.hid hz2
  clear hi hz0 hz1 hz2
  have HC:=Lib.hid hC
  obtain ⟨A,cap,rfl,hcap⟩:=RowsAt.slice hC.1
  have HKL:=Lib.hid (fun n=>kidsU_len C.sts s n)
  clear hC
  go_enter Tryz.func97,Tryz.ntmps97
  go_wp2_with fail
  go_loopw [5,11] (fun v i wr=>∃ (k:Nat),k≤C.sts.length∧i=.int .i64 (k:Int)∧Below (w.alloc (chBox vr (.slice A C.sts.length cap) vt)).heap.size (w.alloc (chBox vr (.slice A C.sts.length cap) vt)) wr∧Hid (wr.ownsRow (w.heap.size+1) 3 1 v (kidsU C.sts s k).length (intVals (kidsU C.sts s k)))) (fun _ i _=>C.sts.length - (intOf i).toNat)
  case atStart=>exact ⟨0,Nat.zero_le _,rfl,Below.refl _ _,Lib.hid (World.ownsRow_nil _ _ _ _)⟩
  case round =>
    obtain ⟨k,hk,rfl,hb,hown⟩:=hrel
    obtain ⟨wo,rfl⟩:∃ wo:World,wo=wr:=⟨_,rfl⟩
    by_cases hlt:k < C.sts.length
    · obtain ⟨b,o,cap',vi,ve,vx,hsl,_,hbl,hst,hhas⟩:=HC.out.st hlt
      injection hsl with e1 e2 e3
      subst e1
      obtain ⟨c0,c1,c2,c3,c4⟩:=hst.below (below_boxed hb) hbl
      obtain ⟨iA,icap,eA,ecap,xA,xcap,rfl,rfl,rfl⟩:=hhas.slices
      have HNO:=Lib.hid (fun h=>kids_no (kidB_no (S:=C.sts) (s:=s) (k:=k) h))
      have HYES:=Lib.hid (fun h1 h2=>kids_yes (kidB_yes (S:=C.sts) (s:=s) (k:=k) h1 h2))
      generalize (stAt C.sts (k:Int)).kind=K at *
      generalize (stAt C.sts (k:Int)).par=P at *
      generalize (stAt C.sts (k:Int)).ini.length=il at *
      generalize (stAt C.sts (k:Int)).ent.length=el at *
      generalize (stAt C.sts (k:Int)).exi.length=xl at *
      have HBN:=Lib.hid (hb.alloc hb.size (stBox K P (.slice iA il icap) (.slice eA el ecap) (.slice xA xl xcap)))
      have HON:=Lib.hid (own_below hown.out (below_box wo (stBox K P (.slice iA il icap) (.slice eA el ecap) (.slice xA xl xcap))))
      have hbs:w.heap.size+1≤wo.heap.size:=by have:=hb.size; simpa using this
      clear hst hhas e2 e3 hb hown
      by_cases hp:P=s
      · have hp2:(P == s)=true:=by simpa using hp
        have HP:=Lib.hid hp
        clear hp
        cases hh:histB K with
        | true =>
          have HH:=Lib.hid hh
          clear hh
          go_wp2_with (go_at_call 125; refine (isHist_any _ _).mono ?_; rintro e w' ⟨rfl,rfl⟩; rw [HH.out])
          go_roundw
          case rel=>exact ⟨k+1,by omega,by go_num,HBN.out,Lib.hid (by rw [HNO.out (.inr HH.out)]; exact HON.out)⟩
          case measure=>simp [intOf]; omega
        | false =>
          have HH:=Lib.hid hh
          have hkl:=HKL.out k
          clear hh
          go_wp2_with fail
          refine (isHist_any _ _).mono ?_
          rintro e w' ⟨rfl,rfl⟩
          rw [HH.out]
          go_wp2_with (at_builtin; refine wpList_append_own_at _ rfl _ _ 36 rfl (w.heap.size+1) 3 i0 (.int .i64 0) 1 8 Tryz.underlying36 HI.out HZ0.out HZ1.out HZ2.out rfl (by decide) _ _ _ rfl (HON.out.alloc _) ⟨wo.heap.size+1,0,none⟩ 1 1 [.int .i64 (k:Int)] rfl rfl ?c1 ?c2 ?c3 ?c4 ?c5 ?_)
          case c1=>exact new_val _ _ _ _ (by simp)
          case c2=>exact int_one _
          case c3=>unfold maxLen; omega
          case c4=>omega
          case c5=>simp; omega
          intro v' w2 hown' hgrow _ _
          have HG:=Lib.hid (Below.grown (HBN.out.alloc HBN.out.size _) hgrow (by simp; omega) (fun g hg=>by have:=(HON.out.lt g hg).1; simpa using this))
          have HO':=Lib.hid hown'
          clear hown' hgrow
          go_wp2
          go_roundw
          case rel=>exact ⟨k+1,by omega,by go_num,HG.out,Lib.hid (by rw [HYES.out HP.out HH.out,intVals_snoc]; simpa using HO'.out)⟩
          case measure=>simp [intOf]; omega
      · have hp2:(P == s)=false:=by simpa using hp
        have HP:=Lib.hid hp
        clear hp
        go_wp2_with fail
        go_roundw
        case rel=>exact ⟨k+1,by omega,by go_num,HBN.out,Lib.hid (by rw [HNO.out (.inl HP.out)]; exact HON.out)⟩
        case measure=>simp [intOf]; omega
    · obtain rfl:k=C.sts.length:=by omega
      go_wp2_with fail
      go_ret
      exact ⟨below_boxed hb,_,rfl,own_lower hown.out (by omega)⟩
end Go.Proofs.YtfgkcjmeiabdjaaGreatDoor
/- The contracts of the document's own answers for layer 5: Kids, Ints, In. -/
namespace Go.Proofs.YtfgkcjmeiabdjaaGreatDoor
open Go.ChangeShapes Go.WideShapes Go.ChangeAt Go.RowKit
set_option linter.unusedVariables false

theorem histB_no {K:Int} (h5:¬ K=5) (h6:¬ K=6):histB K=false:=by simp [histB,h5,h6]
set_option maxHeartbeats 4000000 in
set_option maxRecDepth 100000 in
theorem rkids_any (vr s:Int) (vs vt:Value) (C:Ch) (w:World) (hC:ChHas w vs vt C) (hl:C.sts.length≤1000) :
    Calls Tryz.prog 37 #[.agg #[.int .i64 vr,vs,vt],.int .i64 s] w (KPost (kids C.sts s) w):=by
  obtain ⟨i0,hi,hz0,hz1,hz2⟩:=info_parts Tryz.info3
  have HI:=Lib.hid hi
  have HZ0:=Lib.hid hz0
  have HZ1:=Lib.hid hz1
  have HZ2:=Lib.hid hz2
  clear hi hz0 hz1 hz2
  have HC:=Lib.hid hC
  obtain ⟨A,cap,rfl,hcap⟩:=RowsAt.slice hC.1
  have HKL:=Lib.hid (fun n=>kidsU_len C.sts s n)
  clear hC
  go_enter Tryz.func37,Tryz.ntmps37
  go_wp2_with fail
  go_loopw [5,6] (fun v i wr=>∃ (k:Nat),k≤C.sts.length∧i=.int .i64 (k:Int)∧Below (w.alloc (chBox vr (.slice A C.sts.length cap) vt)).heap.size (w.alloc (chBox vr (.slice A C.sts.length cap) vt)) wr∧Hid (wr.ownsRow (w.heap.size+1) 3 1 v (kidsU C.sts s k).length (intVals (kidsU C.sts s k)))) (fun _ i _=>C.sts.length - (intOf i).toNat)
  case atStart=>exact ⟨0,Nat.zero_le _,rfl,Below.refl _ _,Lib.hid (World.ownsRow_nil _ _ _ _)⟩
  case round =>
    obtain ⟨k,hk,rfl,hb,hown⟩:=hrel
    obtain ⟨wo,rfl⟩:∃ wo:World,wo=wr:=⟨_,rfl⟩
    obtain ⟨x0,x1,x2⟩:=box_later hb
    by_cases hlt:k < C.sts.length
    · obtain ⟨b,o,cap',vi,ve,vx,hsl,_,hbl,hst,hhas⟩:=HC.out.st hlt
      injection hsl with e1 e2 e3
      subst e1
      obtain ⟨c0,c1,c2,c3,c4⟩:=hst.below (below_boxed hb) hbl
      have HNO:=Lib.hid (fun h=>kids_no (kidB_no (S:=C.sts) (s:=s) (k:=k) h))
      have HYES:=Lib.hid (fun h1 h2=>kids_yes (kidB_yes (S:=C.sts) (s:=s) (k:=k) h1 h2))
      generalize (stAt C.sts (k:Int)).kind=K at *
      generalize (stAt C.sts (k:Int)).par=P at *
      have HBN:=Lib.hid hb
      have HON:=Lib.hid hown.out
      have hbs:w.heap.size+1≤wo.heap.size:=by have:=hb.size; simpa using this
      clear hst hhas e2 e3 hb hown
      by_cases hp:P=s
      · have hp2:(P == s)=true:=by simpa using hp
        have HP:=Lib.hid hp
        clear hp
        by_cases h5:K=5
        · have h52:(K != 5)=false:=by simp [h5]
          have HH:Hid (histB K=true):=Lib.hid (by rw [h5]; rfl)
          clear h5
          go_wp2_with fail
          go_roundw
          case rel=>exact ⟨k+1,by omega,by go_num,HBN.out,Lib.hid (by rw [HNO.out (.inr HH.out)]; exact HON.out)⟩
          case measure=>simp [intOf]; omega
        · have h52:(K != 5)=true:=by simp [h5]
          by_cases h6:K=6
          · have h62:(K != 6)=false:=by simp [h6]
            have HH:Hid (histB K=true):=Lib.hid (by rw [h6]; rfl)
            clear h5 h6
            go_wp2_with fail
            go_roundw
            case rel=>exact ⟨k+1,by omega,by go_num,HBN.out,Lib.hid (by rw [HNO.out (.inr HH.out)]; exact HON.out)⟩
            case measure=>simp [intOf]; omega
          · have h62:(K != 6)=true:=by simp [h6]
            have HH:Hid (histB K=false):=Lib.hid (histB_no h5 h6)
            have hkl:=HKL.out k
            clear h5 h6
            go_wp2_with (at_builtin; refine wpList_append_own_at _ rfl _ _ 36 rfl (w.heap.size+1) 3 i0 (.int .i64 0) 1 8 Tryz.underlying36 HI.out HZ0.out HZ1.out HZ2.out rfl (by decide) _ _ _ rfl (HON.out.alloc _) ⟨wo.heap.size,0,none⟩ 1 1 [.int .i64 (k:Int)] rfl rfl ?c1 ?c2 ?c3 ?c4 ?c5 ?_)
            case c1=>exact new_val _ _ _ _ rfl
            case c2=>exact int_one _
            case c3=>unfold maxLen; omega
            case c4=>omega
            case c5=>simp; omega
            intro v' w2 hown' hgrow _ _
            have HG:=Lib.hid (Below.grown (HBN.out.alloc HBN.out.size _) hgrow (by simp; omega) (fun g hg=>by have:=(HON.out.lt g hg).1; simpa using this))
            have HO':=Lib.hid hown'
            clear hown' hgrow
            go_wp2
            go_roundw
            case rel=>exact ⟨k+1,by omega,by go_num,HG.out,Lib.hid (by rw [HYES.out HP.out HH.out,intVals_snoc]; simpa using HO'.out)⟩
            case measure=>simp [intOf]; omega
      · have hp2:(P == s)=false:=by simpa using hp
        have HP:=Lib.hid hp
        clear hp
        go_wp2_with fail
        go_roundw
        case rel=>exact ⟨k+1,by omega,by go_num,HBN.out,Lib.hid (by rw [HNO.out (.inl HP.out)]; exact HON.out)⟩
        case measure=>simp [intOf]; omega
    · obtain rfl:k=C.sts.length:=by omega
      go_wp2_with fail
      go_ret
      exact ⟨below_boxed hb,_,rfl,own_lower hown.out (by omega)⟩
theorem list_of_own {w:World} {B:Nat} {v:Value} {L:List Int} (h:w.ownsRow B 3 1 v L.length (intVals L)):ListAt w v L:=by
  have h':=h
  rcases h.2 with ⟨h1,h0⟩ | ⟨g,cap,cur,rfl,hge,hgt,hcap,_⟩
  · obtain rfl:L=[]:=List.eq_nil_of_length_eq_zero h0
    rw [h1]
    exact RowsAt.nil w
  · refine ⟨_,cap,rfl,hcap,fun i x hx=>⟨g,0,rfl,(h'.lt g rfl).2,?_⟩⟩
    show w.cell? ⟨g,0+i * 1,none⟩=_
    rw [Nat.zero_add,Nat.mul_one]
    exact own_cell h' i _ (by simp [intVals,hx])
theorem cIn_no {S:List St} {a b:Int} (h:a < 1 ∨ (S.length:Int)≤a ∨ b < 0):cIn S a b=false:=by
  rw [Bool.eq_false_iff]
  intro hc
  obtain ⟨h1,h2,h3⟩:=cIn_range hc
  unfold isSt at h3
  simp only [Bool.and_eq_true,decide_eq_true_eq] at h3
  omega
theorem cUp_is {S:List St} {k:Nat} (hk:k < S.length):cUp S (k:Int)=if 0≤(stAt S (k:Int)).par∧(stAt S (k:Int)).par < (k:Int) then (stAt S (k:Int)).par else -1:=by
  unfold cUp
  rw [isSt_of hk]
  by_cases h:0≤(stAt S (k:Int)).par∧(stAt S (k:Int)).par < (k:Int)
  · rw [if_pos h,if_pos ⟨rfl,fromB_true.2 ⟨h.1,by omega⟩⟩]
  · rw [if_neg h,if_neg]
    intro hc
    have:=fromB_true.1 hc.2
    omega
set_option maxHeartbeats 2000000 in
theorem rIn_any (vr b:Int) (vs vt:Value) (C:Ch) (hl:Short C.sts.length):∀ (n:Nat) (a:Int) (w:World),a.toNat≤n→ChHas w vs vt C →
    Calls Tryz.prog 74 #[.agg #[.int .i64 vr,vs,vt],.int .i64 a,.int .i64 b] w fun e w'=>e=.returned (.bool (cIn C.sts a b))∧Below w.heap.size w w':=by
  intro n
  induction n with
  | zero =>
    intro a w hn hC
    have HB:=Lib.hid (below_box w (chBox vr vs vt))
    have ha:a < 1:=by omega
    have HR:=Lib.hid (cIn_no (S:=C.sts) (b:=b) (.inl ha))
    clear hC hn
    go_enter Tryz.func74,Tryz.ntmps74
    go_wp2_with fail
    go_ret
    exact ⟨ret_bool HR.out.symm,HB.out⟩
  | succ n ih =>
    intro a w hn hC
    have HB:=Lib.hid (below_box w (chBox vr vs vt))
    have hs:=hl
    unfold Short at hs
    obtain ⟨A,cap,rfl,hcap⟩:=RowsAt.slice hC.1
    by_cases ha:a < 1
    · have HR:=Lib.hid (cIn_no (S:=C.sts) (b:=b) (.inl ha))
      clear hC hn ih
      go_enter Tryz.func74,Tryz.ntmps74
      go_wp2_with fail
      go_ret
      exact ⟨ret_bool HR.out.symm,HB.out⟩
    · obtain ⟨k,rfl⟩:∃ k:Nat,a=(k:Int):=⟨a.toNat,by omega⟩
      have ha0:¬ ((k:Int) < 1):=ha
      have ha1:decide ((k:Int) < 1)=false:=by simpa using ha0
      by_cases hk:C.sts.length≤k
      · have HR:=Lib.hid (cIn_no (S:=C.sts) (a:=(k:Int)) (b:=b) (.inr (.inl (by omega))))
        have hk2:decide ((C.sts.length:Int)≤(k:Int))=true:=by simpa using hk
        have hk3:decide (C.sts.length≤k)=true:=by simpa using hk
        clear hC hn ih
        go_enter Tryz.func74,Tryz.ntmps74
        go_wp2_with fail
        go_ret
        exact ⟨ret_bool HR.out.symm,HB.out⟩
      · have hk2:decide ((C.sts.length:Int)≤(k:Int))=false:=by simp; omega
        have hk3:decide (C.sts.length≤k)=false:=by simpa using hk
        have hkl:k < C.sts.length:=by omega
        by_cases hb0:b < 0
        · have HR:=Lib.hid (cIn_no (S:=C.sts) (a:=(k:Int)) (b:=b) (.inr (.inr hb0)))
          have hb2:decide (b < 0)=true:=by simpa using hb0
          clear hC hn ih
          go_enter Tryz.func74,Tryz.ntmps74
          go_wp2_with fail
          go_ret
          exact ⟨ret_bool HR.out.symm,HB.out⟩
        · have hb2:decide (b < 0)=false:=by simpa using hb0
          obtain ⟨B,o,cap',vi,ve,vx,hsl,_,hbl,⟨c0,c1,c2,c3,c4⟩,hhas⟩:=hC.st hkl
          injection hsl with e1 e2 e3
          subst e1
          have hup:=cUp_is hkl
          have hcu:=cIn_up C.sts (k:Int) b
          generalize (stAt C.sts (k:Int)).par=P at *
          have IH:=Lib.hid (fun W (h:P.toNat≤n) hW=>ih P W h (hC.below hW))
          clear hhas e2 e3 ih hC
          by_cases hp0:P < 0
          · have hp2:decide (P < 0)=true:=by simpa using hp0
            have HR:Hid (cIn C.sts (k:Int) b=false):=Lib.hid (by rw [if_neg (by omega)] at hup; rw [hcu,hup,if_pos (by decide)])
            clear hup hcu
            go_enter Tryz.func74,Tryz.ntmps74
            go_wp2_with fail
            go_ret
            exact ⟨ret_bool HR.out.symm,HB.out⟩
          · have hp2:decide (P < 0)=false:=by simpa using hp0
            by_cases hpk:(k:Int)≤P
            · have hpk2:decide ((k:Int)≤P)=true:=by simpa using hpk
              have HR:Hid (cIn C.sts (k:Int) b=false):=Lib.hid (by rw [if_neg (by omega)] at hup; rw [hcu,hup,if_pos (by decide)])
              clear hup hcu
              go_enter Tryz.func74,Tryz.ntmps74
              go_wp2_with fail
              go_ret
              exact ⟨ret_bool HR.out.symm,HB.out⟩
            · have hpk2:decide ((k:Int)≤P)=false:=by simpa using hpk
              rw [if_pos (by omega)] at hup
              rw [hup,if_neg hp0] at hcu
              by_cases hpb:P=b
              · have hpb2:(P == b)=true:=by simpa using hpb
                rw [if_pos hpb] at hcu
                have HR:=Lib.hid hcu
                have HPB:=Lib.hid hpb
                clear hup hcu hpb
                go_enter Tryz.func74,Tryz.ntmps74
                go_wp2_with fail
                go_ret
                exact ⟨ret_bool HR.out.symm,HB.out⟩
              · have hpb2:(P == b)=false:=by simpa using hpb
                rw [if_neg hpb] at hcu
                have HR:=Lib.hid hcu
                have hPn:P.toNat≤n:=by omega
                clear hup hcu hpb
                go_enter Tryz.func74,Tryz.ntmps74
                go_wp2_with fail
                refine (IH.out _ hPn HB.out).mono ?_
                rintro e w1 ⟨rfl,hb1⟩
                have HB1:=Lib.hid (below_boxed hb1)
                clear hb1
                go_wp2_with fail
                go_ret
                exact ⟨ret_bool HR.out.symm,HB1.out⟩
end Go.Proofs.YtfgkcjmeiabdjaaGreatDoor
