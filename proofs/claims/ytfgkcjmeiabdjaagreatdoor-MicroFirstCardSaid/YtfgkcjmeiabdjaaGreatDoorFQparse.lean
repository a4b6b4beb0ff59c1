/- Contracts of the document's answers for words and signs, and that they are those of the plain scan. -/
import Derived.Test.YtfgkcjmeiabdjaaGreatDoorFZgen
import Derived.Test.YtfgkcjmeiabdjaaGreatDoorFTmay
import Derived.Test.YtfgkcjmeiabdjaaGreatDoorFPparse
namespace Go.Proofs.YtfgkcjmeiabdjaaGreatDoor
open Go.ChangeShapes Go.WideShapes Go.ChangeAt Go.RowKit
set_option linter.unusedVariables false

set_option maxHeartbeats 1000000 in
theorem word_any (s:ByteArray) (w:World) :
    Calls Tryz.prog 181 #[.string s] w fun e w'=>e=.returned (.int .i64 (wordK s.data.toList:Nat))∧w=w':=by
  rw [← Lib.toList_data]
  go_enter Tryz.func181,Tryz.ntmps181
  go_wp2
  all_goals
    go_ret
    refine ⟨ret_int ?_,rfl⟩
    simp only [wordK, *,↓reduceIte,Bool.false_eq_true]
    rfl
set_option maxHeartbeats 1000000 in
theorem sign_any (s:ByteArray) (w:World) (h0:0 < s.size) (hs:s.size≤1000000) :
    Calls Tryz.prog 182 #[.string s] w fun e w'=>e=.returned (.tuple #[.int .i64 ((signK s.data.toList).1:Nat),.int .i64 ((signK s.data.toList).2:Nat)])∧w=w':=by
  have hz:=Lib.size_eq s
  by_cases h1:1 < s.size
  · have hS:signK s.data.toList=signI true (s[1].toNat:Int) (s[0].toNat:Int):=by
      rw [signK,at_getD s 1 h1,at_getD s 0 h0,← hz,decide_eq_true h1]
    rw [hS]
    clear hS hz
    go_enter Tryz.func182,Tryz.ntmps182
    go_wp2
    all_goals
      go_ret2
      refine ⟨ret_two ?_ ?_,rfl⟩ <;> simp [signI, *]
  · have hS:signK s.data.toList=signI false 0 (s[0].toNat:Int):=by
      rw [signK,at_getD s 0 h0,← hz,decide_eq_false h1]; rfl
    rw [hS]
    clear hS hz
    go_enter Tryz.func182,Tryz.ntmps182
    go_wp2
    all_goals
      go_ret2
      refine ⟨ret_two ?_ ?_,rfl⟩ <;> simp [signI, *]
end Go.Proofs.YtfgkcjmeiabdjaaGreatDoor
/- The contract of the document's own answer for a text's tokens (spinetref02.Tokens): what the plain scan gives. -/
namespace Go.Proofs.YtfgkcjmeiabdjaaGreatDoor
open Go.ChangeShapes Go.WideShapes Go.ChangeAt Go.RowKit
set_option linter.unusedVariables false

theorem word_at (s:ByteArray) (k j:Nat) (w:World) :
    Calls Tryz.prog 181 #[.string (s.extract k j)] w fun e w'=>e=.returned (.int .i64 (wordK (mid s.data.toList k j):Nat))∧w=w':=by
  have:=word_any (s.extract k j) w
  rwa [Lib.extract_data] at this
theorem sign_at (s:ByteArray) (k:Nat) (hk:k < s.size) (hs:s.size≤1000000) (w:World) :
    Calls Tryz.prog 182 #[.string (s.extract k s.size)] w fun e w'=>e=.returned (.tuple #[.int .i64 ((signK (s.data.toList.drop k)).1:Nat),.int .i64 ((signK (s.data.toList.drop k)).2:Nat)])∧w=w':=by
  have h:=extract_size s k s.size (Nat.le_refl _)
  have:=sign_any (s.extract k s.size) w (by omega) (by omega)
  rwa [Lib.extract_to_end] at this
set_option maxHeartbeats 4000000 in
set_option maxRecDepth 100000 in
theorem rtokens_any (s:ByteArray) (w:World) (hs:s.size≤200) :
    Calls Tryz.prog 169 #[.string s] w (RefPost (scan s.data.toList 0 []) w):=by
  obtain ⟨i0,hi,hz0,hz1,hz2⟩:=info_parts Tryz.info40
  have HI:=Lib.hid hi
  have HZ0:=Lib.hid hz0
  have HZ1:=Lib.hid hz1
  have HZ2:=Lib.hid hz2
  clear hi hz0 hz1 hz2
  have HZ:=Lib.hid (Lib.size_eq s)
  generalize hRR:scan s.data.toList 0 []=R at *
  have HR:=Lib.hid hRR
  clear hRR
  go_enter Tryz.func169,Tryz.ntmps169
  go_wp2
  go_loopw [4,5] (fun v i wr=>∃ (k:Nat) (ts:List Tk),k≤s.size∧ts.length≤k∧i=.int .i64 (k:Int)∧Hid (scan s.data.toList k ts=R)∧Below w.heap.size w wr∧Hid (wr.ownsRow w.heap.size 184 3 v ts.length (tksCells ts))) (fun _ i _=>s.size - (intOf i).toNat)
  case atStart=>exact ⟨0,[],Nat.zero_le _,by simp,rfl,HR,Below.refl _ _,Lib.hid (World.ownsRow_nil _ _ _ _)⟩
  case round =>
    obtain ⟨k,ts,hk,hts,rfl,hU,hb,hown⟩:=hrel
    obtain ⟨wo,rfl⟩:∃ wo:World,wo=wr:=⟨_,rfl⟩
    have Q3:=Lib.hid (show ts.length+1≤maxLen by unfold maxLen; omega)
    have Q4:=Lib.hid (show (ts.length+1) * 24≤140737488355328 by omega)
    have Q5:=Lib.hid (show ∀ o:Obj,w.heap.size≤(wo.alloc o).heap.size from fun o=>by simp; have:=hb.size; omega)
    by_cases hlt:k < s.size
    · have hlt':k < s.data.toList.length:=by rw [← HZ.out]; exact hlt
      have ha:=Lib.hid (at_getD s k hlt)
      by_cases hsp:s[k].toNat=32
      · have HH:=Lib.hid ((scan_sp s.data.toList k ts hlt' (by rw [← ha.out]; unfold isSp; exact decide_eq_true hsp)).symm.trans hU.out)
        have h1:((s[k].toNat:Int) == 32)=true:=by simp; omega
        clear hsp
        go_wp2
        go_roundw
        case rel=>exact ⟨k+1,ts,by omega,by omega,by go_num,HH,hb,hown⟩
        case measure=>simp [intOf]; omega
      · have hsp':=Lib.hid (show isSp (s.data.toList.getD k 0)=false by rw [← ha.out]; unfold isSp; exact decide_eq_false hsp)
        have h1:((s[k].toNat:Int) == 32)=false:=by simp; omega
        clear hsp
        by_cases hdg:48≤s[k].toNat∧s[k].toNat≤57
        · have hd':isDg (s.data.toList.getD k 0)=true:=by rw [← ha.out]; unfold isDg; simp; omega
          have HT:=Lib.hid (tok_num s.data.toList k hd')
          generalize hE:upto isDg s.data.toList k=E at HT
          have b1:48≤(s[k].toNat:Int):=by omega
          have b2:(s[k].toNat:Int)≤57:=by omega
          have HE:=Lib.hid hE
          clear hdg hd' hE
          go_wp2
          go_loop [7,8,9] (fun t n b=>∃ (j m:Nat) (big:Bool),k≤j∧j≤s.size∧t=.int .i64 (j:Int)∧n=.int .u64 (m:Int)∧b=.bool big∧m≤9223372036854775807∧Hid (upto isDg s.data.toList j=E)∧Hid (big=decide (9223372036854775807 < val (mid s.data.toList k j)))∧Hid (big=false→m=val (mid s.data.toList k j))) (fun t _ _=>s.size - (intOf t).toNat)
          case atStart=>exact ⟨k,0,false,by omega,hk,rfl,rfl,rfl,by omega,HE,Lib.hid (by rw [mid_self]; decide),Lib.hid (fun _=>by rw [mid_self]; rfl)⟩
          case round =>
            obtain ⟨j,m,big,hkj,hj,rfl,rfl,rfl,hm,hV,hG,hM⟩:=hrel
            by_cases hin:∃ h:j < s.size,48≤s[j].toNat∧s[j].toNat≤57
            · obtain ⟨hjl,hc1,hc2⟩:=hin
              have hjl':j < s.data.toList.length:=by rw [← HZ.out]; exact hjl
              have HV:=Lib.hid ((upto_yes isDg s.data.toList j hjl' (by rw [← at_getD s j hjl]; unfold isDg; simp; omega)).symm.trans hV.out)
              have HX:=Lib.hid (show val (mid s.data.toList k (j+1))=10 * val (mid s.data.toList k j)+(s[j].toNat - 48) by rw [mid_succ _ k j hkj hjl',val_snoc,← at_getD s j hjl])
              have d1:48≤(s[j].toNat:Int):=by omega
              have d2:(s[j].toNat:Int)≤57:=by omega
              cases big with
              | true =>
                have HB:=Lib.hid (of_decide_eq_true hG.out.symm)
                clear hV hG hM
                go_wp2
                all_goals
                  go_round
                  case rel=>exact ⟨j+1,m,true,by omega,by omega,by go_num,rfl,rfl,hm,HV,Lib.hid (by have:=HB.out; rw [HX.out]; symm; exact decide_eq_true (by omega)),Lib.hid (fun h=>by cases h)⟩
                  case measure=>simp [intOf]; omega
              | false =>
                have hM':=hM.out rfl
                by_cases ht:(9223372036854775807 - ((s[j].toNat:Int) - 48)) / 10 < (m:Int)
                · have HB:=Lib.hid (show 9223372036854775807 < 10 * val (mid s.data.toList k j)+(s[j].toNat - 48) by omega)
                  clear hV hG hM hM'
                  go_wp2
                  go_round
                  case rel=>exact ⟨j+1,m,true,by omega,by omega,by go_num,rfl,rfl,hm,HV,Lib.hid (by have:=HB.out; rw [HX.out]; symm; exact decide_eq_true (by omega)),Lib.hid (fun h=>by cases h)⟩
                  case measure=>simp [intOf]; omega
                · have hle:10 * (m:Int)+((s[j].toNat:Int) - 48)≤9223372036854775807:=by omega
                  have HMM:=Lib.hid hM'
                  clear hV hG hM hM'
                  go_wp2
                  go_round
                  case rel=>exact ⟨j+1,10 * m+(s[j].toNat - 48),false,by omega,by omega,by go_num,by congr 1; omega,rfl,by omega,HV,Lib.hid (by have:=HMM.out; rw [HX.out]; symm; exact decide_eq_false (by omega)),Lib.hid (fun _=>by rw [HX.out,HMM.out])⟩
                  case measure=>simp [intOf]; omega
            · have hje:E=j:=by
                rw [← hV.out]
                by_cases hjl:j < s.size
                · exact upto_no isDg s.data.toList j (by rw [← HZ.out]; exact hjl) (by rw [← at_getD s j hjl]; unfold isDg; have:¬ (48≤s[j].toNat∧s[j].toNat≤57):=fun h=>hin ⟨hjl,h⟩; simp; omega)
                · exact upto_end isDg s.data.toList j (by rw [← HZ.out]; omega)
              subst hje
              have hw:(∃ h:E < s.size,(s[E].toNat:Int) < 48) ∨ (∃ h:E < s.size,57 < (s[E].toNat:Int)) ∨ (s.size:Int)≤E:=by
                by_cases hjl:E < s.size
                · have:¬ (48≤s[E].toNat∧s[E].toNat≤57):=fun h=>hin ⟨hjl,h⟩
                  by_cases h97:s[E].toNat < 48
                  · exact .inl ⟨hjl,by omega⟩
                  · exact .inr (.inl ⟨hjl,by omega⟩)
                · exact .inr (.inr (by omega))
              cases big with
              | true =>
                have HH:=Lib.hid (hU.out.symm.trans (scan_bad _ k ts hlt' hsp'.out (HT.out.trans (if_neg (by have:=of_decide_eq_true hG.out.symm; omega)))))
                clear hin hV hG hM
                rcases hw with ⟨hw1,hw⟩ | ⟨hw1,hw⟩ | hw
                all_goals
                  go_wp2
                  go_ret2
                  exact ⟨hb,.inr ⟨k,HH.out,rfl⟩⟩
              | false =>
                have hT1:=HT.out.trans (if_pos (by have:=of_decide_eq_false hG.out.symm; omega))
                rw [← hM.out rfl] at hT1
                have HH:=Lib.hid ((scan_tok _ k _ _ ts hlt' hsp'.out hT1).symm.trans hU.out)
                have hkE:k < E:=(tokAt_gt hlt' hT1).1
                clear hin hV hG hM hT1
                rcases hw with ⟨hw1,hw⟩ | ⟨hw1,hw⟩ | hw
                all_goals
                  go_wp2_with (at_builtin; refine wpList_append_own_at _ rfl _ _ 162 rfl w.heap.size 184 i0 (.agg #[.int .i64 0,.int .i64 0,.int .i64 0]) 3 24 Tryz.underlying162 HI.out HZ0.out HZ1.out HZ2.out rfl (by decide) _ _ _ rfl (hown.out.alloc _) ⟨wo.heap.size,0,none⟩ 1 1 (tkCells ((1:Int),(m:Int),(k:Int))) rfl rfl (new_cells wo 184 _ _ rfl) (tk_one _) Q3.out Q4.out (Q5.out _) ?_; intro v' w2 hown' hgrow _ _; have HG:=Lib.hid (below_app hb hown.out hgrow); have HO':=Lib.hid (own_snoc hown'); clear hown' hgrow)
                  go_roundw
                  case rel=>exact ⟨E,_,hj,by simp; omega,rfl,HH,HG.out,HO'⟩
                  case measure=>simp [intOf]; omega
        · by_cases hle:97≤s[k].toNat∧s[k].toNat≤122
          · have hd':isDg (s.data.toList.getD k 0)=false:=by rw [← ha.out]; unfold isDg; simp; omega
            have hl':isLe (s.data.toList.getD k 0)=true:=by rw [← ha.out]; unfold isLe; simp; omega
            have HT:=Lib.hid (tok_word s.data.toList k hlt' hd' hl')
            have HU1:=Lib.hid (upto_yes isLe s.data.toList k hlt' hl')
            generalize hE:upto isLe s.data.toList k=E at HT HU1
            have b1:97≤(s[k].toNat:Int):=by omega
            have b2:(s[k].toNat:Int)≤122:=by omega
            have HE:=Lib.hid hE
            rw [← ha.out] at HT
            clear hdg hle hd' hl' hE
            go_wp2
            go_loop [7] (fun i=>∃ j:Nat,k≤j∧j≤s.size∧i=.int .i64 (j:Int)∧Hid (upto isLe s.data.toList j=E)) (fun i=>s.size - (intOf i).toNat)
            case atStart=>exact ⟨k,by omega,hk,rfl,HE⟩
            case round =>
              obtain ⟨j,hkj,hj,rfl,hV⟩:=hrel
              by_cases hin:∃ h:j < s.size,97≤s[j].toNat∧s[j].toNat≤122
              · obtain ⟨hjl,hc1,hc2⟩:=hin
                have hjl':j < s.data.toList.length:=by rw [← HZ.out]; exact hjl
                have HV:=Lib.hid ((upto_yes isLe s.data.toList j hjl' (by rw [← at_getD s j hjl]; unfold isLe; simp; omega)).symm.trans hV.out)
                have d1:97≤(s[j].toNat:Int):=by omega
                have d2:(s[j].toNat:Int)≤122:=by omega
                clear hV hc1 hc2
                go_wp2
                go_round
                case rel=>exact ⟨j+1,by omega,by omega,by go_num,HV⟩
                case measure=>simp [intOf]; omega
              · have hje:E=j:=by
                  rw [← hV.out]
                  by_cases hjl:j < s.size
                  · exact upto_no isLe s.data.toList j (by rw [← HZ.out]; exact hjl) (by rw [← at_getD s j hjl]; unfold isLe; have:¬ (97≤s[j].toNat∧s[j].toNat≤122):=fun h=>hin ⟨hjl,h⟩; simp; omega)
                  · exact upto_end isLe s.data.toList j (by rw [← HZ.out]; omega)
                subst hje
                have hw:(∃ h:E < s.size,(s[E].toNat:Int) < 97) ∨ (∃ h:E < s.size,122 < (s[E].toNat:Int)) ∨ (s.size:Int)≤E:=by
                  by_cases hjl:E < s.size
                  · have:¬ (97≤s[E].toNat∧s[E].toNat≤122):=fun h=>hin ⟨hjl,h⟩
                    by_cases h97:s[E].toNat < 97
                    · exact .inl ⟨hjl,by omega⟩
                    · exact .inr (.inl ⟨hjl,by omega⟩)
                  · exact .inr (.inr (by omega))
                clear hin hV
                have HW:=Lib.hid (fun W=>word_at s k E W)
                generalize wordK (mid s.data.toList k E)=K at HT HW
                by_cases h1:E=k+1
                · have HT1:=HT.out.trans (if_pos h1)
                  have HH:=Lib.hid ((scan_tok _ k _ _ ts hlt' hsp'.out HT1).symm.trans hU.out)
                  rw [← h1] at HH
                  have e1:((E:Int) == (k:Int)+1)=true:=by simp; omega
                  have hkE:k < E:=by omega
                  clear HT1 h1
                  rcases hw with ⟨hw1,hw⟩ | ⟨hw1,hw⟩ | hw
                  all_goals
                    go_wp2_with (first | (go_at_call 181; refine (HW.out _).mono ?_; rintro e w' ⟨rfl,rfl⟩) | (at_builtin; refine wpList_append_own_at _ rfl _ _ 162 rfl w.heap.size 184 i0 (.agg #[.int .i64 0,.int .i64 0,.int .i64 0]) 3 24 Tryz.underlying162 HI.out HZ0.out HZ1.out HZ2.out rfl (by decide) _ _ _ rfl (hown.out.alloc _) ⟨wo.heap.size,0,none⟩ 1 1 (tkCells ((2:Int),(s[k].toNat:Int) - 97,(k:Int))) rfl rfl (new_cells wo 184 _ _ rfl) (tk_one _) Q3.out Q4.out (Q5.out _) ?_; intro v' w2 hown' hgrow _ _; have HG:=Lib.hid (below_app hb hown.out hgrow); have HO':=Lib.hid (own_snoc hown'); clear hown' hgrow))
                    go_roundw
                    case rel=>exact ⟨E,_,hj,by simp; omega,rfl,HH,HG.out,HO'⟩
                    case measure=>simp [intOf]; omega
                · have HT1:=Lib.hid (HT.out.trans (if_neg h1))
                  have e1:((E:Int) == (k:Int)+1)=false:=by simp; omega
                  by_cases h0:K=0
                  · have HH:=Lib.hid (hU.out.symm.trans (scan_bad _ k ts hlt' hsp'.out (HT1.out.trans (if_pos h0))))
                    subst h0
                    clear h1
                    rcases hw with ⟨hw1,hw⟩ | ⟨hw1,hw⟩ | hw
                    all_goals
                      go_wp2_with (go_at_call 181; refine (HW.out _).mono ?_; rintro e w' ⟨rfl,rfl⟩)
                      go_ret2
                      exact ⟨hb,.inr ⟨k,HH.out,rfl⟩⟩
                  · have HH:=Lib.hid ((scan_tok _ k _ _ ts hlt' hsp'.out (HT1.out.trans (if_neg h0))).symm.trans hU.out)
                    have e0:((K:Int) != 0)=true:=by simp; omega
                    have hkE:k < E:=(tokAt_gt hlt' (HT1.out.trans (if_neg h0))).1
                    clear h1 h0
                    rcases hw with ⟨hw1,hw⟩ | ⟨hw1,hw⟩ | hw
                    all_goals
                      go_wp2_with (first | (go_at_call 181; refine (HW.out _).mono ?_; rintro e w' ⟨rfl,rfl⟩) | (at_builtin; refine wpList_append_own_at _ rfl _ _ 162 rfl w.heap.size 184 i0 (.agg #[.int .i64 0,.int .i64 0,.int .i64 0]) 3 24 Tryz.underlying162 HI.out HZ0.out HZ1.out HZ2.out rfl (by decide) _ _ _ rfl (hown.out.alloc _) ⟨wo.heap.size,0,none⟩ 1 1 (tkCells ((K:Int),0,(k:Int))) rfl rfl (new_cells wo 184 _ _ rfl) (tk_one _) Q3.out Q4.out (Q5.out _) ?_; intro v' w2 hown' hgrow _ _; have HG:=Lib.hid (below_app hb hown.out hgrow); have HO':=Lib.hid (own_snoc hown'); clear hown' hgrow))
                      go_roundw
                      case rel=>exact ⟨E,_,hj,by simp; omega,rfl,HH,HG.out,HO'⟩
                      case measure=>simp [intOf]; omega
          · have hd':isDg (s.data.toList.getD k 0)=false:=by rw [← ha.out]; unfold isDg; simp; omega
            have hl':isLe (s.data.toList.getD k 0)=false:=by rw [← ha.out]; unfold isLe; simp; omega
            have HT:=Lib.hid (tok_sign s.data.toList k hlt' hd' hl')
            have hsz:=extract_size s k s.size (Nat.le_refl _)
            have HS:=Lib.hid (sign_at s k hlt (by omega))
            generalize signK (s.data.toList.drop k)=jn at HT HS
            obtain ⟨j,n⟩:=jn
            have hw:(s[k].toNat:Int) < 48 ∨ (57 < (s[k].toNat:Int)∧(s[k].toNat:Int) < 97) ∨ 122 < (s[k].toNat:Int):=by omega
            clear hdg hle hd' hl' hsz
            by_cases hn:n=0
            · have HH:=Lib.hid (hU.out.symm.trans (scan_bad _ k ts hlt' hsp'.out (HT.out.trans (if_pos hn))))
              subst hn
              rcases hw with hw | ⟨hw,hw2⟩ | hw
              all_goals
                go_wp2_with (go_at_call 182; refine (HS.out _).mono ?_; rintro e w' ⟨rfl,rfl⟩)
                go_ret2
                exact ⟨hb,.inr ⟨k,HH.out,rfl⟩⟩
            · have HH:=Lib.hid ((scan_tok _ k _ _ ts hlt' hsp'.out (HT.out.trans (if_neg hn))).symm.trans hU.out)
              have hg:=(tokAt_gt hlt' (HT.out.trans (if_neg hn))).2
              have hn0:((n:Int) == 0)=false:=by simp; exact hn
              have hn1:1≤n:=by omega
              have hg2:k+n≤s.size:=by rw [HZ.out]; exact hg
              clear hn hg
              rcases hw with hw | ⟨hw,hw2⟩ | hw
              all_goals
                go_wp2_with (first | (go_at_call 182; refine (HS.out _).mono ?_; rintro e w' ⟨rfl,rfl⟩) | (at_builtin; refine wpList_append_own_at _ rfl _ _ 162 rfl w.heap.size 184 i0 (.agg #[.int .i64 0,.int .i64 0,.int .i64 0]) 3 24 Tryz.underlying162 HI.out HZ0.out HZ1.out HZ2.out rfl (by decide) _ _ _ rfl (hown.out.alloc _) ⟨wo.heap.size,0,none⟩ 1 1 (tkCells ((j:Int),0,(k:Int))) rfl rfl (new_cells wo 184 _ _ rfl) (tk_one _) Q3.out Q4.out (Q5.out _) ?_; intro v' w2 hown' hgrow _ _; have HG:=Lib.hid (below_app hb hown.out hgrow); have HO':=Lib.hid (own_snoc hown'); clear hown' hgrow))
                go_roundw
                case rel=>exact ⟨k+n,_,hg2,by simp; omega,by go_num,HH,HG.out,HO'⟩
                case measure=>simp [intOf]; omega
    · have HH:=Lib.hid (hU.out.symm.trans (scan_end _ k ts (by rw [← HZ.out]; omega)))
      clear hU
      go_wp2
      go_ret2
      refine ⟨hb,.inl ⟨by rw [HH.out],_,rfl,?_⟩⟩
      rw [HH.out]
      exact hown.out
end Go.Proofs.YtfgkcjmeiabdjaaGreatDoor
/- The contract of the document's Reader.Read: what binds at least so strongly; by induction on the number of steps. -/
namespace Go.Proofs.YtfgkcjmeiabdjaaGreatDoor
open Go.ChangeShapes Go.WideShapes Go.ChangeAt Go.RowKit
set_option linter.unusedVariables false

theorem read6_any (ts:List Tk) (g n:Nat) (vin:Value) (hF:QOne ts g vin n):QReads ts g vin n 6:=by
  intro k out R v x w hR hk ho hT hS hx
  subst hx
  have H:=Lib.hid (hF k out R v w hR hk ho hT hS)
  clear hF hR hT hS
  go_enter Tryz.func170,Tryz.ntmps170
  go_wp2_with fail
  refine H.out.mono ?_
  intro e w1 hp
  obtain rfl:=hp.ret
  have HP:=Lib.hid hp
  clear hp
  go_wp2_with fail
  first | go_end0 | (simp only [Exit.inBlock,Exit.then]; refine bodyPost_ret (results_none rfl _ _ _) rfl ?_) | refine bodyPost_ret (results_none rfl _ _ _) rfl ?_
  exact HP.out

def QRel (ts:List Tk) (g:Nat) (vin:Value) (lv:Nat) (R:Res) (k0:Nat) (o0:List Tk) (w:World) (N gk:Nat) (wr:World):Prop :=
  (∃ (k:Nat) (o:List Tk) (v1:Value),gk≤N∧rd ts gk (10+lv) k o=some R∧k≤ts.length∧o.length≤k∧o.length+k0≤o0.length+k∧Below g w wr∧QSt g vin wr k v1 o false) ∨
  (∃ (k:Nat) (o:List Tk) (v1:Value),R=.bad k∧o.length+k0≤o0.length+k∧Below g w wr∧QSt g vin wr k v1 o true)
set_option maxHeartbeats 4000000 in
set_option maxRecDepth 100000 in
theorem readrow_any (ts:List Tk) (g n lv:Nat) (vin:Value) (hl:ts.length≤1000) (h1:1≤lv) (h6:lv < 6) (h3:lv ≠ 3) (hF:∀ m,m≤n→QReads ts g vin m (lv+1)):QReads ts g vin (n+1) lv:=by
  intro k out R v x w hR hk ho hT hS hx
  subst hx
  have HF:=Lib.hid hF
  have HT:=Lib.hid hT
  have HS:=Lib.hid hS
  rw [rd_row n lv out h6 h3] at hR
  obtain ⟨R1,hR1⟩:∃ R1,rd ts n (lv+1) k out=some R1:=by
    rcases thenR_some hR with ⟨k',a,c⟩ | ⟨k',o',a,c⟩
    · exact ⟨_,a⟩
    · exact ⟨_,a⟩
  have HR1:=Lib.hid hR1
  have HFI:=Lib.hid (rd_fits ts n (lv+1) k out R1 hR1 hk)
  rw [hR1] at hR
  have HR:=Lib.hid hR
  have n6:((lv:Int) == 6)=false:=by simp; omega
  have n3:((lv:Int) == 3)=false:=by simp; omega
  clear hF hT hS hR hR1 h3
  go_enter Tryz.func170,Tryz.ntmps170
  go_wp2_with fail
  refine (HF.out n (Nat.le_refl _) k out R1 v _ w HR1.out hk ho HT.out HS.out (by simp)).mono ?_
  rintro e w1 ⟨rfl,hb1,hm⟩
  have hrel:QRel ts g vin lv R k out w n n w1:=by
    cases R1 with
    | ok k' o' =>
      obtain ⟨v',hs⟩:=hm
      have hf:=HFI.out
      unfold Fits at hf
      exact .inl ⟨k',o',v',Nat.le_refl _,HR.out,by omega,by omega,by omega,hb1,hs⟩
    | bad k' =>
      obtain ⟨v',o',hs,hlen⟩:=hm
      have hr:=HR.out
      simp only [thenR] at hr
      injection hr with hr
      exact .inr ⟨k',o',v',hr.symm,hlen,hb1,hs⟩
  have HREL:=Lib.hid hrel
  clear hrel hm hb1
  go_wp2_with fail
  go_loopg [4] n (fun gk t wr=>QRel ts g vin lv R k out w n gk wr)
  case atStart=>exact HREL.out
  case round =>
    clear HREL HFI HR1 HR
    rcases hrel with ⟨k1,o1,v1,hgk,hr,hk1,ho1,hlen,hB,hS1⟩ | ⟨k1,o1,v1,rfl,hlen,hB,hS1⟩
    · obtain ⟨m,rfl⟩:∃ m,gk=m+1:=by
        cases gk with
        | zero=>rw [rd] at hr; cases hr
        | succ m=>exact ⟨m,rfl⟩
      have HB:=Lib.hid hB
      have HS1:=Lib.hid hS1
      have HT1:=Lib.hid (HT.out.below hB)
      by_cases hc:lvl (knd ts k1)=lv
      · have hlt:k1 < ts.length:=lvl_lt (ts:=ts) (k:=k1) (by omega)
        rw [rd_rest m lv o1 h1 hc] at hr
        obtain ⟨R2,hR2⟩:∃ R2,rd ts m (lv+1) (k1+1) o1=some R2:=by
          rcases thenR_some hr with ⟨k',a,c⟩ | ⟨k',o',a,c⟩
          · exact ⟨_,a⟩
          · exact ⟨_,a⟩
        have HR2:=Lib.hid hR2
        have HFI:=Lib.hid (rd_fits ts m (lv+1) (k1+1) o1 R2 hR2 hlt)
        rw [hR2] at hr
        have HR:=Lib.hid hr
        have HC:=Lib.hid hc
        obtain ⟨⟨c0,c1,c2,c3⟩,f0,f1,f2,f3⟩:=hS1.blk.facts4
        clear hr hc hR2 hB hS1
        go_wp2_with fail
        refine (see_any ts g k1 vin v1 _ o1 HT1.out HS1.out hk1 (by omega)).mono ?_
        rintro e w2 ⟨rfl,a,rfl⟩
        go_wp2_with fail
        refine (level_any _ _).mono ?_
        rintro e w2 ⟨rfl,rfl⟩
        rw [HC.out]
        go_wp2_with fail
        refine (see_any ts g k1 vin v1 _ o1 (HT1.out.drewN a) (HS1.out.drewN a) hk1 (by omega)).mono ?_
        rintro e w2 ⟨rfl,c,rfl⟩
        go_wp2_with fail
        have hb:Below g wr (wr.setCell ⟨g,1,none⟩ (.int .i64 ((k1:Int)+1))):=(Below.refl _ _).setCell (by simp) _
        have HT2:=Lib.hid ((HT1.out.below hb).drewN (a+c))
        have HS2:=Lib.hid ((HS1.out.at_ (k1+1)).drewN (a+c))
        have HB2:=Lib.hid (below_drewN (HB.out.trans hb) (a+c))
        clear hb
        refine (HF.out m (by omega) (k1+1) o1 R2 v1 _ _ HR2.out hlt (by omega) HT2.out HS2.out (by simp)).mono ?_
        rintro e w3 ⟨rfl,hb3,hm⟩
        have HB3:=Lib.hid (HB2.out.trans hb3)
        clear hb3
        cases R2 with
        | ok k' o' =>
          obtain ⟨v',hs⟩:=hm
          have HS3:=Lib.hid hs
          have hf:=HFI.out
          unfold Fits at hf
          clear hs
          go_wp2_with fail
          refine (put_any g k' _ 0 vin v' o' false _ HS3.out (by omega)).mono ?_
          rintro e w4 ⟨rfl,hb4,v4,hs4⟩
          have HB4:=Lib.hid (HB3.out.trans hb4)
          have HS4:=Lib.hid hs4
          clear hb4 hs4
          go_wp2_with fail
          go_roundg m
          case measure=>omega
          case rel=>exact .inl ⟨k',o' ++ [(knd ts k1,0,0)],v4,by omega,HR.out,by omega,by simp only [List.length_append,List.length_cons,List.length_nil]; omega,by simp only [List.length_append,List.length_cons,List.length_nil]; omega,HB4.out,HS4.out⟩
        | bad k' =>
          obtain ⟨v',o',hs,hlen'⟩:=hm
          have HS3:=Lib.hid hs
          have hf:=HFI.out
          unfold Fits at hf
          have hr':=HR.out
          simp only [thenR] at hr'
          injection hr' with hr'
          subst hr'
          clear hs
          go_wp2_with fail
          refine (put_any g k' _ 0 vin v' o' true _ HS3.out (by omega)).mono ?_
          rintro e w4 ⟨rfl,hb4,v4,hs4⟩
          have HB4:=Lib.hid (HB3.out.trans hb4)
          have HS4:=Lib.hid hs4
          clear hb4 hs4
          go_wp2_with fail
          go_roundg m
          case measure=>omega
          case rel=>exact .inr ⟨k',o' ++ [(knd ts k1,0,0)],v4,rfl,by simp only [List.length_append,List.length_cons,List.length_nil]; omega,HB4.out,HS4.out⟩
      · rw [rd_done m lv o1 hc] at hr
        injection hr with hr
        subst hr
        have q1:(lvl (knd ts k1) == lv)=false:=by simpa using hc
        have q2:(((lvl (knd ts k1):Nat):Int) == (lv:Int))=false:=by simp; omega
        have q3:decide (lvl (knd ts k1)=lv)=false:=by simpa using hc
        clear hc hB hS1
        go_wp2_with fail
        refine (see_any ts g k1 vin v1 _ o1 HT1.out HS1.out hk1 (by omega)).mono ?_
        rintro e w2 ⟨rfl,a,rfl⟩
        go_wp2_with fail
        refine (level_any _ _).mono ?_
        rintro e w2 ⟨rfl,rfl⟩
        generalize lvl (knd ts k1)=y at *
        go_wp2_with fail
        first | go_end0 | (simp only [Exit.inBlock,Exit.then]; refine bodyPost_ret (results_none rfl _ _ _) rfl ?_) | refine bodyPost_ret (results_none rfl _ _ _) rfl ?_
        exact ⟨rfl,below_drewN HB.out a,v1,HS1.out.drewN a⟩
    · have HB:=Lib.hid hB
      have HS1:=Lib.hid hS1
      have q2:((0:Int) == (lv:Int))=false:=by simp; omega
      have q3:((lv:Int) == 0)=false:=by simp; omega
      have q4:decide (0=lv)=false:=by simp; omega
      have q5:decide (lv=0)=false:=by simp; omega
      have q6:(0 == lv)=false:=by simp; omega
      clear hB hS1
      go_wp2_with fail
      refine (see_bad g k1 vin v1 _ HS1.out.blk).mono ?_
      rintro e w2 ⟨rfl,a,rfl⟩
      go_wp2_with fail
      refine (level_any _ _).mono ?_
      rintro e w2 ⟨rfl,rfl⟩
      rw [lvl_zero]
      go_wp2_with fail
      first | go_end0 | (simp only [Exit.inBlock,Exit.then]; refine bodyPost_ret (results_none rfl _ _ _) rfl ?_) | refine bodyPost_ret (results_none rfl _ _ _) rfl ?_
      exact ⟨rfl,below_drewN HB.out a,v1,o1,HS1.out.drewN a,hlen⟩
end Go.Proofs.YtfgkcjmeiabdjaaGreatDoor
/- The contract of the document's Reader.Read at comparisons, and at every level. -/
namespace Go.Proofs.YtfgkcjmeiabdjaaGreatDoor
open Go.ChangeShapes Go.WideShapes Go.ChangeAt Go.RowKit
set_option linter.unusedVariables false

set_option maxHeartbeats 2000000 in
set_option maxRecDepth 100000 in
theorem read3_not (ts:List Tk) (g n k:Nat) (vin v:Value) (out:List Tk) (R:Res) (w:World) (hl:ts.length≤1000) (hF:QReads ts g vin n 3) (hk:k≤ts.length) (ho:out.length≤k) (hT:ToksU g w vin ts) (hS:QSt g vin w k v out false)
    (hc:knd ts k=14) (hR:thenR (rd ts n 3 (k+1) out) (fun k' o=>some (.ok k' (o ++ [(14,0,0)])))=some R):Calls Tryz.prog 170 #[.pointer (some ⟨g,0,none⟩),.int .i64 3] w (QPost g vin k out R w):=by
  have hlt:k < ts.length:=knd_lt (by omega)
  obtain ⟨R1,hR1,rfl⟩:=thenR_op hR
  have HFI:=Lib.hid (rd_fits ts n 3 (k+1) out R1 hR1 hlt)
  have HF:=Lib.hid hF
  have HT:=Lib.hid hT
  have HS:=Lib.hid hS
  have HC:=Lib.hid hc
  have HR1:=Lib.hid hR1
  obtain ⟨⟨c0,c1,c2,c3⟩,f0,f1,f2,f3⟩:=hS.blk.facts4
  clear hF hT hS hc hR hR1
  go_enter Tryz.func170,Tryz.ntmps170
  go_wp2_with fail
  refine (see_any ts g k vin v _ out HT.out HS.out hk (by omega)).mono ?_
  rintro e w1 ⟨rfl,a,rfl⟩
  rw [HC.out]
  go_wp2_with fail
  have hb:Below g w (w.setCell ⟨g,1,none⟩ (.int .i64 ((k:Int)+1))):=(Below.refl _ _).setCell (by simp) _
  have HT1:=Lib.hid ((HT.out.below hb).drewN a)
  have HS1:=Lib.hid ((HS.out.at_ (k+1)).drewN a)
  have HB:=Lib.hid (below_drewN hb a)
  clear hb
  refine (HF.out (k+1) out R1 v 3 _ HR1.out hlt (by omega) HT1.out HS1.out rfl).mono ?_
  rintro e w2 ⟨rfl,hb2,hm⟩
  have HB2:=Lib.hid (HB.out.trans hb2)
  clear hb2
  cases R1 with
  | ok k' o' =>
    obtain ⟨v',hs⟩:=hm
    have HS2:=Lib.hid hs
    clear hs
    go_wp2_with fail
    refine (put_any g k' 14 0 vin v' o' false _ HS2.out (by have:=HFI.out; unfold Fits at this; omega)).mono ?_
    rintro e w3 ⟨rfl,hb3,v3,hs3⟩
    have HB3:=Lib.hid (HB2.out.trans hb3)
    have HS3:=Lib.hid hs3
    clear hb3 hs3
    go_wp2_with fail
    first | go_end0 | (simp only [Exit.inBlock,Exit.then]; refine bodyPost_ret (results_none rfl _ _ _) rfl ?_) | refine bodyPost_ret (results_none rfl _ _ _) rfl ?_
    exact ⟨rfl,HB3.out,v3,HS3.out⟩
  | bad k' =>
    obtain ⟨v',o',hs,hlen⟩:=hm
    have HS2:=Lib.hid hs
    clear hs
    go_wp2_with fail
    refine (put_any g k' 14 0 vin v' o' true _ HS2.out (by have:=HFI.out; unfold Fits at this; omega)).mono ?_
    rintro e w3 ⟨rfl,hb3,v3,hs3⟩
    have HB3:=Lib.hid (HB2.out.trans hb3)
    have HS3:=Lib.hid hs3
    clear hb3 hs3
    go_wp2_with fail
    first | go_end0 | (simp only [Exit.inBlock,Exit.then]; refine bodyPost_ret (results_none rfl _ _ _) rfl ?_) | refine bodyPost_ret (results_none rfl _ _ _) rfl ?_
    exact ⟨rfl,HB3.out,v3,_,HS3.out,by simp only [List.length_append,List.length_cons,List.length_nil]; omega⟩
def QRel3 (ts:List Tk) (g:Nat) (vin:Value) (R1:Res) (k0:Nat) (o0:List Tk) (w:World) (wr:World):Prop :=
  match R1 with
  | .ok k o=>∃ v1,Below g w wr∧QSt g vin wr k v1 o false
  | .bad k=>∃ v1 o,Below g w wr∧QSt g vin wr k v1 o true∧o.length+k0≤o0.length+k
set_option maxHeartbeats 4000000 in
set_option maxRecDepth 100000 in
theorem read3_cmp (ts:List Tk) (g n k:Nat) (vin v:Value) (out:List Tk) (R:Res) (w:World) (hl:ts.length≤1000) (hF:QReads ts g vin n 4) (hk:k≤ts.length) (ho:out.length≤k) (hT:ToksU g w vin ts) (hS:QSt g vin w k v out false)
    (hc:knd ts k ≠ 14) (hR:thenR (rd ts n 4 k out) (fun k' o=>if lvl (knd ts k')=3 then thenR (rd ts n 4 (k'+1) o) fun k'' o'=>some (.ok k'' (o' ++ [(knd ts k',0,0)])) else some (.ok k' o))=some R):Calls Tryz.prog 170 #[.pointer (some ⟨g,0,none⟩),.int .i64 3] w (QPost g vin k out R w):=by
  have HF:=Lib.hid hF
  have HT:=Lib.hid hT
  have HS:=Lib.hid hS
  obtain ⟨R1,hR1⟩:∃ R1,rd ts n 4 k out=some R1:=by
    rcases thenR_some hR with ⟨k',a,c⟩ | ⟨k',o',a,c⟩
    · exact ⟨_,a⟩
    · exact ⟨_,a⟩
  have HR1:=Lib.hid hR1
  have HFI:=Lib.hid (rd_fits ts n 4 k out R1 hR1 hk)
  rw [hR1] at hR
  have HR:=Lib.hid hR
  have n14:(knd ts k == 14)=false:=by simpa using hc
  clear hF hT hS hR hR1 hc
  go_enter Tryz.func170,Tryz.ntmps170
  go_wp2_with fail
  refine (see_any ts g k vin v _ out HT.out HS.out hk (by omega)).mono ?_
  rintro e w1 ⟨rfl,a,rfl⟩
  generalize knd ts k=x0 at *
  go_wp2_with fail
  refine (HF.out k out R1 v _ _ HR1.out hk ho (HT.out.drewN a) (HS.out.drewN a) rfl).mono ?_
  rintro e w1 ⟨rfl,hb1,hm⟩
  have HREL:Hid (QRel3 ts g vin R1 k out w w1):=Lib.hid (by
    cases R1 with
    | ok k' o'=>obtain ⟨v',hs⟩:=hm; exact ⟨v',(below_drewN (Below.refl g w) a).trans hb1,hs⟩
    | bad k'=>obtain ⟨v',o',hs,hlen⟩:=hm; exact ⟨v',o',(below_drewN (Below.refl g w) a).trans hb1,hs,hlen⟩)
  clear hm hb1 n14
  go_wp2_with fail
  go_loopg [4] 1 (fun gk t wr=>QRel3 ts g vin R1 k out w wr)
  case atStart=>exact HREL.out
  case round =>
    clear HREL HR1
    cases R1 with
    | bad k' =>
      obtain ⟨v1,o1,hB,hS1,hlen⟩:=hrel
      have hr:=HR.out
      simp only [thenR] at hr
      injection hr with hr
      subst hr
      have HB:=Lib.hid hB
      have HS1:=Lib.hid hS1
      clear hB hS1
      go_wp2_with fail
      refine (see_bad g k' vin v1 _ HS1.out.blk).mono ?_
      rintro e w2 ⟨rfl,a,rfl⟩
      go_wp2_with fail
      refine (level_any _ _).mono ?_
      rintro e w2 ⟨rfl,rfl⟩
      rw [lvl_zero]
      go_wp2_with fail
      first | go_end0 | (simp only [Exit.inBlock,Exit.then]; refine bodyPost_ret (results_none rfl _ _ _) rfl ?_) | refine bodyPost_ret (results_none rfl _ _ _) rfl ?_
      exact ⟨rfl,below_drewN HB.out a,v1,o1,HS1.out.drewN a,hlen⟩
    | ok k1 o1 =>
      obtain ⟨v1,hB,hS1⟩:=hrel
      have hf:=HFI.out
      unfold Fits at hf
      have HB:=Lib.hid hB
      have HS1:=Lib.hid hS1
      have HT1:=Lib.hid (HT.out.below hB)
      by_cases hc:lvl (knd ts k1)=3
      · have hlt:k1 < ts.length:=lvl_lt (ts:=ts) (k:=k1) (by omega)
        have hr:=HR.out
        simp only [thenR] at hr
        rw [if_pos hc] at hr
        obtain ⟨R2,hR2,hRR⟩:=thenR_op hr
        subst hRR
        have HR2:=Lib.hid hR2
        have HFI2:=Lib.hid (rd_fits ts n 4 (k1+1) o1 R2 hR2 hlt)
        have HC:=Lib.hid hc
        obtain ⟨⟨c0,c1,c2,c3⟩,f0,f1,f2,f3⟩:=hS1.blk.facts4
        clear hr hc hR2 hB hS1
        go_wp2_with fail
        refine (see_any ts g k1 vin v1 _ o1 HT1.out HS1.out (by omega) (by omega)).mono ?_
        rintro e w2 ⟨rfl,a,rfl⟩
        go_wp2_with fail
        refine (level_any _ _).mono ?_
        rintro e w2 ⟨rfl,rfl⟩
        rw [HC.out]
        go_wp2_with fail
        refine (see_any ts g k1 vin v1 _ o1 (HT1.out.drewN a) (HS1.out.drewN a) (by omega) (by omega)).mono ?_
        rintro e w2 ⟨rfl,c,rfl⟩
        go_wp2_with fail
        have hb:Below g wr (wr.setCell ⟨g,1,none⟩ (.int .i64 ((k1:Int)+1))):=(Below.refl _ _).setCell (by simp) _
        have HT2:=Lib.hid ((HT1.out.below hb).drewN (a+c))
        have HS2:=Lib.hid ((HS1.out.at_ (k1+1)).drewN (a+c))
        have HB2:=Lib.hid (below_drewN (HB.out.trans hb) (a+c))
        clear hb
        refine (HF.out (k1+1) o1 R2 v1 _ _ HR2.out hlt (by omega) HT2.out HS2.out rfl).mono ?_
        rintro e w3 ⟨rfl,hb3,hm⟩
        have HB3:=Lib.hid (HB2.out.trans hb3)
        clear hb3
        cases R2 with
        | ok k' o' =>
          obtain ⟨v',hs⟩:=hm
          have HS3:=Lib.hid hs
          have hf2:=HFI2.out
          unfold Fits at hf2
          clear hs
          go_wp2_with fail
          refine (put_any g k' _ 0 vin v' o' false _ HS3.out (by omega)).mono ?_
          rintro e w4 ⟨rfl,hb4,v4,hs4⟩
          have HB4:=Lib.hid (HB3.out.trans hb4)
          have HS4:=Lib.hid hs4
          clear hb4 hs4
          go_wp2_with fail
          first | go_end0 | (simp only [Exit.inBlock,Exit.then]; refine bodyPost_ret (results_none rfl _ _ _) rfl ?_) | refine bodyPost_ret (results_none rfl _ _ _) rfl ?_
          exact ⟨rfl,HB4.out,v4,HS4.out⟩
        | bad k' =>
          obtain ⟨v',o',hs,hlen'⟩:=hm
          have HS3:=Lib.hid hs
          have hf2:=HFI2.out
          unfold Fits at hf2
          clear hs
          go_wp2_with fail
          refine (put_any g k' _ 0 vin v' o' true _ HS3.out (by omega)).mono ?_
          rintro e w4 ⟨rfl,hb4,v4,hs4⟩
          have HB4:=Lib.hid (HB3.out.trans hb4)
          have HS4:=Lib.hid hs4
          clear hb4 hs4
          go_wp2_with fail
          first | go_end0 | (simp only [Exit.inBlock,Exit.then]; refine bodyPost_ret (results_none rfl _ _ _) rfl ?_) | refine bodyPost_ret (results_none rfl _ _ _) rfl ?_
          exact ⟨rfl,HB4.out,v4,_,HS4.out,by simp only [List.length_append,List.length_cons,List.length_nil]; omega⟩
      · have hr:=HR.out
        simp only [thenR] at hr
        rw [if_neg hc] at hr
        injection hr with hr
        subst hr
        have q1:(lvl (knd ts k1) == 3)=false:=by simpa using hc
        have q2:(((lvl (knd ts k1):Nat):Int) == (3:Int))=false:=by simp; omega
        have q3:decide (lvl (knd ts k1)=3)=false:=by simpa using hc
        clear hc hB hS1
        go_wp2_with fail
        refine (see_any ts g k1 vin v1 _ o1 HT1.out HS1.out (by omega) (by omega)).mono ?_
        rintro e w2 ⟨rfl,a,rfl⟩
        go_wp2_with fail
        refine (level_any _ _).mono ?_
        rintro e w2 ⟨rfl,rfl⟩
        generalize lvl (knd ts k1)=y at *
        go_wp2_with fail
        first | go_end0 | (simp only [Exit.inBlock,Exit.then]; refine bodyPost_ret (results_none rfl _ _ _) rfl ?_) | refine bodyPost_ret (results_none rfl _ _ _) rfl ?_
        exact ⟨rfl,below_drewN HB.out a,v1,HS1.out.drewN a⟩
theorem read3_any (ts:List Tk) (g n:Nat) (vin:Value) (hl:ts.length≤1000) (hF:QReads ts g vin n 3) (hF4:QReads ts g vin n 4):QReads ts g vin (n+1) 3:=by
  intro k out R v x w hR hk ho hT hS hx
  subst hx
  by_cases hc:knd ts k=14
  · rw [rd3_not n out hc] at hR
    exact read3_not ts g n k vin v out R w hl hF hk ho hT hS hc hR
  · rw [rd3_cmp n out hc] at hR
    exact read3_cmp ts g n k vin v out R w hl hF4 hk ho hT hS hc hR
structure QAll (ts:List Tk) (g:Nat) (vin:Value) (n:Nat):Prop where
  one:QOne ts g vin n
  r1:QReads ts g vin n 1
  r2:QReads ts g vin n 2
  r3:QReads ts g vin n 3
  r4:QReads ts g vin n 4
  r5:QReads ts g vin n 5
  r6:QReads ts g vin n 6
theorem qreads_zero (ts:List Tk) (g:Nat) (vin:Value) (lv:Nat):QReads ts g vin 0 lv:=fun k out R v x w h=>by rw [rd] at h; cases h
theorem qall (ts:List Tk) (g:Nat) (vin:Value) (hl:ts.length≤1000):∀ n,∀ m,m≤n→QAll ts g vin m
  | 0,m,hm=>by
    obtain rfl:m=0:=by omega
    exact ⟨(fun k out R v w h=>by rw [rd] at h; cases h),qreads_zero _ _ _ _,qreads_zero _ _ _ _,qreads_zero _ _ _ _,qreads_zero _ _ _ _,qreads_zero _ _ _ _,qreads_zero _ _ _ _⟩
  | n+1,m,hm=>by
    have ih:=qall ts g vin hl n
    by_cases h:m≤n
    · exact ih m h
    · obtain rfl:m=n+1:=by omega
      have hn:=ih n (Nat.le_refl n)
      have h1:=one_any ts g n vin hl hn.one hn.r1
      exact ⟨h1,readrow_any ts g n 1 vin hl (by omega) (by omega) (by omega) fun m h=>(ih m h).r2,readrow_any ts g n 2 vin hl (by omega) (by omega) (by omega) fun m h=>(ih m h).r3,read3_any ts g n vin hl hn.r3 hn.r4,
        readrow_any ts g n 4 vin hl (by omega) (by omega) (by omega) fun m h=>(ih m h).r5,readrow_any ts g n 5 vin hl (by omega) (by omega) (by omega) fun m h=>(ih m h).r6,read6_any ts g (n+1) vin h1⟩
end Go.Proofs.YtfgkcjmeiabdjaaGreatDoor
/- The contract of the document's Parse (spinetref03.Parse). -/
namespace Go.Proofs.YtfgkcjmeiabdjaaGreatDoor
open Go.ChangeShapes Go.WideShapes Go.ChangeAt Go.RowKit
set_option linter.unusedVariables false

def TPost (a:Ans) (w:World) (e:Ending) (w':World):Prop :=
  Below w.heap.size w w'∧match a with
    | .toks o=>∃ v,e=.returned (.tuple #[v,.int .i64 0,.int .i64 (-1)])∧w'.ownsRow w.heap.size 184 3 v o.length (tksCells o)
    | .form k=>e=.returned (.tuple #[.slice none 0 0,.int .i64 2,.int .i64 k])
    | .large=>e=.returned (.tuple #[.slice none 0 0,.int .i64 3,.int .i64 (-1)])
set_option maxHeartbeats 1000000 in
set_option maxRecDepth 100000 in
theorem rparse_large (s:ByteArray) (w:World) (hs:200 < s.size) (hs2:s.size≤1000000):Calls Tryz.prog 157 #[.string s] w (TPost .large w):=by
  go_enter Tryz.func157,Tryz.ntmps157
  go_wp2_with fail
  refine bodyPost_ret (v:=.tuple #[.slice none 0 0,.int .i64 3,.int .i64 (-1)]) (by simp [results,Tryz.results157,go_sem]) rfl ?_
  exact ⟨Below.refl _ _,rfl⟩
set_option maxHeartbeats 1000000 in
set_option maxRecDepth 100000 in
theorem rparse_spot (s:ByteArray) (w:World) (hs:s.size≤200) (k:Nat) (hR:scan s.data.toList 0 []=([],(k:Int))):Calls Tryz.prog 157 #[.string s] w (TPost (.form k) w):=by
  have HR:=Lib.hid hR
  clear hR
  go_enter Tryz.func157,Tryz.ntmps157
  go_wp2_with fail
  refine (rtokens_any s w hs).mono ?_
  intro e w' hp
  rw [HR.out] at hp
  rcases hp with ⟨hb,⟨h1,_⟩ | ⟨k',h1,rfl⟩⟩
  · simp at h1
  · have hkk:k'=k:=by simp only [Prod.mk.injEq] at h1; omega
    subst hkk
    have HBB:=Lib.hid hb
    clear h1 hb
    go_wp2_with fail
    refine bodyPost_ret (v:=.tuple #[.slice none 0 0,.int .i64 2,.int .i64 k']) (by simp [results,Tryz.results157,go_sem]) rfl ?_
    exact ⟨HBB.out,rfl⟩
theorem ansOf_bad (ts:List Tk) (len k:Nat):ansOf ts len (.bad k)=.form (byteAt ts len k):=rfl
theorem byteAt_end (ts:List Tk) (len:Nat):byteAt ts len ts.length=len:=by unfold byteAt; rw [List.getElem?_eq_none (Nat.le_refl _)]; rfl
set_option maxHeartbeats 2000000 in
set_option maxRecDepth 100000 in
theorem rparse_read (s:ByteArray) (w:World) (hs:s.size≤200) (ts:List Tk) (R:Res) (hR:scan s.data.toList 0 []=(ts,-1)) (hA:readAll ts=some R):Calls Tryz.prog 157 #[.string s] w (TPost (ansOf ts s.size R) w):=by
  have hlen:ts.length≤200:=by have:=scan_len s.data.toList; rw [hR,← Lib.size_eq] at this; simp at this; omega
  have hf:=rd_fits ts _ 1 0 [] R hA (Nat.zero_le _)
  have HR:=Lib.hid hR
  have HA:=Lib.hid hA
  have HF:=Lib.hid hf
  clear hR hA hf
  go_enter Tryz.func157,Tryz.ntmps157
  go_wp2_with fail
  refine (rtokens_any s w hs).mono ?_
  intro e w1 hp
  rw [HR.out] at hp
  rcases hp with ⟨hb,⟨_,v,rfl,hown⟩ | ⟨k',h1,_⟩⟩
  · have HT:=Lib.hid (ToksU.of (ToksAt.of_own hown))
    obtain ⟨A,cap,rfl,_⟩:=ToksAt.of_own hown
    have HB:=Lib.hid hb
    clear hown hb
    go_wp2_with fail
    have hba:Below w1.heap.size w1 (w1.alloc (.cells #[.slice A ts.length cap,.int .i64 0,.slice none 0 0,.bool false] 208)):=(Below.refl _ _).alloc (Nat.le_refl _) _
    have HS0:Hid (QSt w1.heap.size (.slice A ts.length cap) (w1.alloc (.cells #[.slice A ts.length cap,.int .i64 0,.slice none 0 0,.bool false] 208)) 0 (.slice none 0 0) [] false):=Lib.hid ⟨Blk.new _ _ _,World.ownsRow_nil _ _ _ _⟩
    have HT0:=Lib.hid (HT.out.below hba)
    have HBA:=Lib.hid hba
    clear hba
    have hRd:=(qall ts w1.heap.size (.slice A ts.length cap) (by omega) (20 * ts.length+20) _ (Nat.le_refl _)).r1
    refine (hRd 0 [] R _ 1 _ HA.out (Nat.zero_le _) (by simp) HT0.out HS0.out rfl).mono ?_
    rintro e w2 ⟨rfl,hb2,hm⟩
    have HK:=Lib.hid (HBA.out.trans hb2)
    have HTT:=Lib.hid (HT0.out.below hb2)
    clear hb2 hRd
    have HBW:=Lib.hid (HB.out.trans (HK.out.mono HB.out.size))
    cases R with
    | bad k =>
      obtain ⟨v',o,hst,_⟩:=hm
      obtain ⟨⟨c0,c1,c2,c3⟩,f0,f1,f2,f3⟩:=hst.blk.facts4
      have hkl:k≤ts.length:=by have:=HF.out; unfold Fits at this; omega
      clear hst
      by_cases ha:k=ts.length
      · subst ha
        have hd:decide (ts.length < ts.length)=false:=by simp
        go_wp2_with fail
        refine bodyPost_ret (v:=.tuple #[.slice none 0 0,.int .i64 2,.int .i64 s.size]) (by simp [results,Tryz.results157,go_sem]) rfl ?_
        rw [ansOf_bad,byteAt_end]
        exact ⟨HBW.out,rfl⟩
      · have hlt:k < ts.length:=by omega
        obtain ⟨A',cap',hv,hc,hi⟩:=HTT.out
        obtain ⟨b,o,rfl,hbb,d0,d1,d2⟩:=hi k ts[k] (List.getElem?_eq_getElem hlt)
        injection hv with hv1 hv2 hv3
        subst hv1
        have HX:=Lib.hid (show byteAt ts s.size k=ts[k].2.2 by unfold byteAt; rw [List.getElem?_eq_getElem hlt]; rfl)
        have hd:decide (k < ts.length)=true:=by simpa using hlt
        have hk1:(k:Int) < (ts.length:Int):=by omega
        have hk0:(0:Int)≤(k:Int):=Int.natCast_nonneg _
        generalize ts[k].2.2=z at *
        clear hi hc hv2 hv3 ha d0 d1
        go_wp2_with fail
        go_quiet (fail)
        go_wp2_with fail
        refine bodyPost_ret (v:=.tuple #[.slice none 0 0,.int .i64 2,.int .i64 z]) (by simp [results,Tryz.results157,go_sem]) rfl ?_
        rw [ansOf_bad,HX.out]
        exact ⟨below_drewN HBW.out _,rfl⟩
    | ok k o =>
      obtain ⟨v',hst⟩:=hm
      obtain ⟨⟨c0,c1,c2,c3⟩,f0,f1,f2,f3⟩:=hst.blk.facts4
      have HS:=Lib.hid hst
      have hol:o.length≤200:=by have:=HF.out; unfold Fits at this; simp at this; omega
      have hkl:k≤ts.length:=by have:=HF.out; unfold Fits at this; omega
      obtain ⟨A',cap',hv'⟩:=own_slice hst.own
      subst hv'
      clear hst
      by_cases ha:k=ts.length
      · have HAK:=Lib.hid ha
        have hd:decide (k < ts.length)=false:=by simp; omega
        subst ha
        by_cases h100:o.length≤100
        · have hd:decide (100 < o.length)=false:=by simpa using h100
          have hd':decide ((100:Int) < (o.length:Int))=false:=by simp; omega
          go_wp2_with fail
          refine bodyPost_ret (v:=.tuple #[.slice A' o.length cap',.int .i64 0,.int .i64 (-1)]) (by simp [results,Tryz.results157,go_sem]) rfl ?_
          rw [ansOf_toks _ _ _ _ rfl h100]
          exact ⟨HBW.out,_,rfl,own_base HS.out.own (Nat.le_trans HB.out.size (Nat.le_succ _))⟩
        · have hd:decide (100 < o.length)=true:=by simpa using h100
          have hd':decide ((100:Int) < (o.length:Int))=true:=by simp; omega
          have hd2:100 < o.length:=by omega
          go_wp2_with fail
          refine bodyPost_ret (v:=.tuple #[.slice none 0 0,.int .i64 3,.int .i64 (-1)]) (by simp [results,Tryz.results157,go_sem]) rfl ?_
          rw [ansOf_large _ _ _ _ rfl hd2]
          exact ⟨HBW.out,rfl⟩
      · have hlt:k < ts.length:=by omega
        have HAK:=Lib.hid ha
        obtain ⟨A2,cap2,hv,hc,hi⟩:=HTT.out
        obtain ⟨b,o2,rfl,hbb,d0,d1,d2⟩:=hi k ts[k] (List.getElem?_eq_getElem hlt)
        injection hv with hv1 hv2 hv3
        subst hv1
        have HX:=Lib.hid (show byteAt ts s.size k=ts[k].2.2 by unfold byteAt; rw [List.getElem?_eq_getElem hlt]; rfl)
        have hd:decide (k < ts.length)=true:=by simpa using hlt
        have hk1:(k:Int) < (ts.length:Int):=by omega
        have hk0:(0:Int)≤(k:Int):=Int.natCast_nonneg _
        generalize ts[k].2.2=z at *
        clear hi hc hv2 hv3 ha d0 d1
        go_wp2_with fail
        go_quiet (fail)
        go_wp2_with fail
        refine bodyPost_ret (v:=.tuple #[.slice none 0 0,.int .i64 2,.int .i64 z]) (by simp [results,Tryz.results157,go_sem]) rfl ?_
        rw [ansOf_form _ _ _ _ HAK.out,HX.out]
        exact ⟨below_drewN HBW.out _,rfl⟩
  · simp at h1
theorem rparse_any (s:ByteArray) (w:World) (hs:s.size≤1000000):Calls Tryz.prog 157 #[.string s] w (TPost (parseAns s.data.toList) w):=by
  unfold parseAns
  rw [← Lib.size_eq]
  by_cases h:s.size≤200
  · rw [if_pos h]
    unfold ansIn
    rcases scan_cases s.data.toList with h1 | ⟨k,h1⟩
    · obtain ⟨R,hR⟩:=readAll_some (scan s.data.toList 0 []).1
      rw [if_pos h1,hR]
      exact rparse_read s w h _ R (by rw [← h1]) hR
    · rw [h1,if_neg (by simp)]
      exact rparse_spot s w h k h1
  · rw [if_neg h]
    exact rparse_large s w (by omega) hs
end Go.Proofs.YtfgkcjmeiabdjaaGreatDoor
