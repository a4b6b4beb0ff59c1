/- The contracts of chart.Kids, and of the document's Kids and Ints: a state's children. -/
import Derived.Test.YtmhkpjcdkjnlnaaGreatDoorFWCs
import Derived.Test.YtmhkpjcdkjnlnaaGreatDoorFWEstepl
namespace Go.Proofs.YtmhkpjcdkjnlnaaGreatDoor
open Go.ChangeShapes Go.WideShapes Go.ChangeAt Go.RowKit
set_option linter.unusedVariables false

def KPost (L:List Int) (w:World) (e:Ending) (w':World):Prop:=Below w.heap.size w w'∧∃ v,e=.returned v∧w'.ownsRow w.heap.size 3 1 v L.length (intVals L)
theorem new_val (w:World) (s:Value) (t:TypeId) (g:Nat) (hg:w.heap.size=g):∀ j u,[s][j]?=some u→(w.alloc (.cells #[s] t)).cell? ((⟨g,0,none⟩:Addr).add j)=some u:=by
 subst hg
 intro j u hj
 cases j with
 | zero =>
  simp at hj
  subst hj
  exact (Blk.new w t #[s]).cell 0
 | succ j=>simp at hj
theorem own_lower {w:World} {B B':Nat} {e:TypeId} {s n:Nat} {v:Value} {xs:List Value} (h:w.ownsRow B e s v n xs) (hB:B'≤B):w.ownsRow B' e s v n xs:=by
 refine ⟨h.1,?_⟩
 rcases h.2 with h2 | ⟨a,b,c,h1,h2,h3⟩
 · exact .inl h2
 · exact .inr ⟨a,b,c,h1,Nat.le_trans hB h2,h3⟩
theorem kidB_no {S:List St} {s:Int} {k:Nat} (h:¬ (stAt S (k:Int)).par=s ∨ histB (stAt S (k:Int)).kind=true):kidB S s k=false:=by
 unfold kidB
 rcases h with h | h
 · simp [h]
 · rw [h]; simp
theorem kidB_yes {S:List St} {s:Int} {k:Nat} (h1:(stAt S (k:Int)).par=s) (h:histB (stAt S (k:Int)).kind=false):kidB S s k=true:=by
 unfold kidB
 rw [h]; simp [h1]
theorem kids_no {S:List St} {s:Int} {k:Nat} (h:kidB S s k=false):kidsU S s (k+1)=kidsU S s k:=by rw [kidsU_succ,if_neg (by rw [h]; simp),List.append_nil]
theorem kids_yes {S:List St} {s:Int} {k:Nat} (h:kidB S s k=true):kidsU S s (k+1)=kidsU S s k ++ [(k:Int)]:=by rw [kidsU_succ,if_pos h]
theorem intVals_snoc (L:List Int) (x:Int):intVals (L ++ [x])=intVals L ++ [.int .i64 x]:=by simp [intVals]
set_option maxHeartbeats 4000000 in
set_option maxRecDepth 100000 in
theorem kids_any (vr s:Int) (vs vt:Value) (C:Ch) (w:World) (hC:ChHas w vs vt C) (hl:C.sts.length≤1000) :
 Calls Tryz.prog 57 #[.agg #[.int .i64 vr,vs,vt],.int .i64 s] w (KPost (kids C.sts s) w):=by
 obtain ⟨i0,hi,hz0,hz1,hz2⟩:=info_parts Tryz.info3
 have HI:=Lib.hid hi
 have HZ0:=Lib.hid hz0
 have HZ1:=Lib.hid hz1
 have HZ2:=Lib.hid hz2
 clear hi hz0 hz1 hz2
 have HC:=Lib.hid hC
 obtain ⟨A,cap,rfl,hcap⟩:=RowsAt.slice hC.1
 have HKL:=Lib.hid (fun n=>kidsU_len C.sts s n)
 clear hC
 go_enter Tryz.func57,Tryz.ntmps57
 go_wp2_with fail
 go_loopw [5,11] (fun v i wr=>∃ (k:Nat),k≤C.sts.length∧i=.int .i64 (k:Int)∧Below (w.alloc (chBox vr (.slice A C.sts.length cap) vt)).heap.size (w.alloc (chBox vr (.slice A C.sts.length cap) vt)) wr∧Hid (wr.ownsRow (w.heap.size+1) 3 1 v (kidsU C.sts s k).length (intVals (kidsU C.sts s k)))) (fun _ i _=>C.sts.length - (intOf i).toNat)
 case atStart=>exact ⟨0,Nat.zero_le _,rfl,Below.refl _ _,Lib.hid (World.ownsRow_nil _ _ _ _)⟩
 case round =>
  obtain ⟨k,hk,rfl,hb,hown⟩:=hrel
  obtain ⟨wo,rfl⟩:∃ wo:World,wo=wr:=⟨_,rfl⟩
  by_cases hlt:k < C.sts.length
  · obtain ⟨b,o,cap',vi,ve,vx,hsl,_,hbl,hst,hhas⟩:=HC.out.st hlt
    injection hsl with e1 e2 e3
    subst e1
    obtain ⟨c0,c1,c2,c3,c4⟩:=hst.below (below_boxed hb) hbl
    obtain ⟨iA,icap,eA,ecap,xA,xcap,rfl,rfl,rfl⟩:=hhas.slices
    have HNO:=Lib.hid (fun h=>kids_no (kidB_no (S:=C.sts) (s:=s) (k:=k) h))
    have HYES:=Lib.hid (fun h1 h2=>kids_yes (kidB_yes (S:=C.sts) (s:=s) (k:=k) h1 h2))
    generalize (stAt C.sts (k:Int)).kind=K at *
    generalize (stAt C.sts (k:Int)).par=P at *
    generalize (stAt C.sts (k:Int)).ini.length=il at *
    generalize (stAt C.sts (k:Int)).ent.length=el at *
    generalize (stAt C.sts (k:Int)).exi.length=xl at *
    have HBN:=Lib.hid (hb.alloc hb.size (stBox K P (.slice iA il icap) (.slice eA el ecap) (.slice xA xl xcap)))
    have HON:=Lib.hid (own_below hown.out (below_box wo (stBox K P (.slice iA il icap) (.slice eA el ecap) (.slice xA xl xcap))))
    have hbs:w.heap.size+1≤wo.heap.size:=by have:=hb.size; simpa using this
    clear hst hhas e2 e3 hb hown
    by_cases hp:P=s
    · have hp2:(P == s)=true:=by simpa using hp
      have HP:=Lib.hid hp
      clear hp
      cases hh:histB K with
      | true =>
       have HH:=Lib.hid hh
       clear hh
       go_wp2_with (go_at_call 92; refine (isHist_any _ _).mono ?_; rintro e w' ⟨rfl,rfl⟩; rw [HH.out])
       go_roundw
       case rel=>exact ⟨k+1,by omega,by go_num,HBN.out,Lib.hid (by rw [HNO.out (.inr HH.out)]; exact HON.out)⟩
       case measure=>simp [intOf]; omega
      | false =>
       have HH:=Lib.hid hh
       have hkl:=HKL.out k
       clear hh
       go_wp2_with fail
       refine (isHist_any _ _).mono ?_
       rintro e w' ⟨rfl,rfl⟩
       rw [HH.out]
       go_wp2_with (at_builtin; refine wpList_append_own_at _ rfl _ _ 36 rfl (w.heap.size+1) 3 i0 (.int .i64 0) 1 8 Tryz.underlying36 HI.out HZ0.out HZ1.out HZ2.out rfl (by decide) _ _ _ rfl (HON.out.alloc _) ⟨wo.heap.size+1,0,none⟩ 1 1 [.int .i64 (k:Int)] rfl rfl ?c1 ?c2 ?c3 ?c4 ?c5 ?_)
       case c1=>exact new_val _ _ _ _ (by simp)
       case c2=>exact int_one _
       case c3=>unfold maxLen; omega
       case c4=>omega
       case c5=>simp; omega
       intro v' w2 hown' hgrow _ _
       have HG:=Lib.hid (Below.grown (HBN.out.alloc HBN.out.size _) hgrow (by simp; omega) (fun g hg=>by have:=(HON.out.lt g hg).1; simpa using this))
       have HO':=Lib.hid hown'
       clear hown' hgrow
       go_wp2
       go_roundw
       case rel=>exact ⟨k+1,by omega,by go_num,HG.out,Lib.hid (by rw [HYES.out HP.out HH.out,intVals_snoc]; simpa using HO'.out)⟩
       case measure=>simp [intOf]; omega
    · have hp2:(P == s)=false:=by simpa using hp
      have HP:=Lib.hid hp
      clear hp
      go_wp2_with fail
      go_roundw
      case rel=>exact ⟨k+1,by omega,by go_num,HBN.out,Lib.hid (by rw [HNO.out (.inl HP.out)]; exact HON.out)⟩
      case measure=>simp [intOf]; omega
  · obtain rfl:k=C.sts.length:=by omega
    go_wp2_with fail
    go_ret
    exact ⟨below_boxed hb,_,rfl,own_lower hown.out (by omega)⟩

theorem list_of_own {w:World} {B:Nat} {v:Value} {L:List Int} (h:w.ownsRow B 3 1 v L.length (intVals L)):ListAt w v L:=by
 have h':=h
 rcases h.2 with ⟨h1,h0⟩ | ⟨g,cap,cur,rfl,hge,hgt,hcap,_⟩
 · obtain rfl:L=[]:=List.eq_nil_of_length_eq_zero h0
   rw [h1]
   exact RowsAt.nil w
 · refine ⟨_,cap,rfl,hcap,fun i x hx=>⟨g,0,rfl,(h'.lt g rfl).2,?_⟩⟩
   show w.cell? ⟨g,0+i * 1,none⟩=_
   rw [Nat.zero_add,Nat.mul_one]
   exact own_cell h' i _ (by simp [intVals,hx])
end Go.Proofs.YtmhkpjcdkjnlnaaGreatDoor
