/- Contracts of lex's small functions: the classes of bytes, and where the bytes of a class end. -/
import Derived.Test.YtmhkpjcdkjnlnaaGreatDoorFWZgen
namespace Go.Proofs.YtmhkpjcdkjnlnaaGreatDoor
open Go.ChangeShapes Go.WideShapes Go.ChangeAt Go.RowKit
set_option linter.unusedVariables false

theorem isSpace_any (c:UInt8) (w:World) :
 Calls Tryz.prog 173 #[.int .u8 (c.toNat:Int)] w fun e w'=>e=.returned (.bool (isSp c))∧w=w':=by
 go_enter Tryz.func173,Tryz.ntmps173
 go_wp2
 go_ret
 refine ⟨ret_bool ?_,rfl⟩
 unfold isSp; rw [Bool.eq_iff_iff]; simp; omega
theorem isDigit_any (c:UInt8) (w:World) :
 Calls Tryz.prog 195 #[.int .u8 (c.toNat:Int)] w fun e w'=>e=.returned (.bool (isDg c))∧w=w':=by
 go_enter Tryz.func195,Tryz.ntmps195
 go_wp2
 all_goals
  go_ret
  refine ⟨ret_bool ?_,rfl⟩
  unfold isDg; rw [Bool.eq_iff_iff]; simp; omega
theorem isLetter_any (c:UInt8) (w:World) :
 Calls Tryz.prog 197 #[.int .u8 (c.toNat:Int)] w fun e w'=>e=.returned (.bool (isLe c))∧w=w':=by
 go_enter Tryz.func197,Tryz.ntmps197
 go_wp2
 all_goals
  go_ret
  refine ⟨ret_bool ?_,rfl⟩
  unfold isLe; rw [Bool.eq_iff_iff]; simp; omega
set_option maxHeartbeats 1000000 in
theorem endOf_space (s:ByteArray) (k0:Nat) (w:World) (hk0:k0≤s.size) (hs:s.size≤1000000) :
 Calls Tryz.prog 172 #[.string s,.int .i64 k0,.func (.func 173) #[] #[]] w fun e w'=>e=.returned (.int .i64 (upto isSp s.data.toList k0))∧w=w':=by
 go_enter Tryz.func172,Tryz.ntmps172
 go_wp2
 go_loop [1] (fun i=>∃ k:Nat,k≤s.size∧i=.int .i64 k∧Hid (upto isSp s.data.toList k=upto isSp s.data.toList k0)) (fun i=>s.size - (intOf i).toNat)
 case atStart=>exact ⟨k0,hk0,rfl,Lib.hid rfl⟩
 case round =>
  obtain ⟨k,hk,rfl,hU⟩:=hrel
  by_cases hlt:k < s.size
  · have hl:k < s.data.toList.length:=by rw [← Lib.size_eq]; exact hlt
    have ha:=at_getD s k hlt
    cases hp:isSp (s.data.toList.getD k 0) with
    | true =>
     have H:=Lib.hid (upto_yes isSp _ k hl hp)
     have hp':isSp s[k]=true:=by rw [ha]; exact hp
     clear hp ha
     go_wp2_with (go_at_call 173; refine (isSpace_any _ _).mono ?_; rintro e w' ⟨rfl,rfl⟩)
     go_round
     case rel=>exact ⟨k+1,by omega,by go_num,Lib.hid (H.out.symm.trans hU.out)⟩
     case measure=>simp [intOf]; omega
    | false =>
     have H:=Lib.hid (upto_no isSp _ k hl hp)
     have hp':isSp s[k]=false:=by rw [ha]; exact hp
     clear hp ha
     go_wp2_with (go_at_call 173; refine (isSpace_any _ _).mono ?_; rintro e w' ⟨rfl,rfl⟩)
     go_ret
     exact ⟨ret_int (by rw [← hU.out,H.out]),rfl⟩
  · have H:=Lib.hid (upto_end isSp s.data.toList k (by rw [← Lib.size_eq]; omega))
    go_wp2
    go_ret
    exact ⟨ret_int (by rw [← hU.out,H.out]),rfl⟩
set_option maxHeartbeats 1000000 in
theorem endOf_digit (s:ByteArray) (k0:Nat) (w:World) (hk0:k0≤s.size) (hs:s.size≤1000000) :
 Calls Tryz.prog 172 #[.string s,.int .i64 k0,.func (.func 195) #[] #[]] w fun e w'=>e=.returned (.int .i64 (upto isDg s.data.toList k0))∧w=w':=by
 go_enter Tryz.func172,Tryz.ntmps172
 go_wp2
 go_loop [1] (fun i=>∃ k:Nat,k≤s.size∧i=.int .i64 k∧Hid (upto isDg s.data.toList k=upto isDg s.data.toList k0)) (fun i=>s.size - (intOf i).toNat)
 case atStart=>exact ⟨k0,hk0,rfl,Lib.hid rfl⟩
 case round =>
  obtain ⟨k,hk,rfl,hU⟩:=hrel
  by_cases hlt:k < s.size
  · have hl:k < s.data.toList.length:=by rw [← Lib.size_eq]; exact hlt
    have ha:=at_getD s k hlt
    cases hp:isDg (s.data.toList.getD k 0) with
    | true =>
     have H:=Lib.hid (upto_yes isDg _ k hl hp)
     have hp':isDg s[k]=true:=by rw [ha]; exact hp
     clear hp ha
     go_wp2_with (go_at_call 195; refine (isDigit_any _ _).mono ?_; rintro e w' ⟨rfl,rfl⟩)
     go_round
     case rel=>exact ⟨k+1,by omega,by go_num,Lib.hid (H.out.symm.trans hU.out)⟩
     case measure=>simp [intOf]; omega
    | false =>
     have H:=Lib.hid (upto_no isDg _ k hl hp)
     have hp':isDg s[k]=false:=by rw [ha]; exact hp
     clear hp ha
     go_wp2_with (go_at_call 195; refine (isDigit_any _ _).mono ?_; rintro e w' ⟨rfl,rfl⟩)
     go_ret
     exact ⟨ret_int (by rw [← hU.out,H.out]),rfl⟩
  · have H:=Lib.hid (upto_end isDg s.data.toList k (by rw [← Lib.size_eq]; omega))
    go_wp2
    go_ret
    exact ⟨ret_int (by rw [← hU.out,H.out]),rfl⟩
set_option maxHeartbeats 1000000 in
theorem endOf_letter (s:ByteArray) (k0:Nat) (w:World) (hk0:k0≤s.size) (hs:s.size≤1000000) :
 Calls Tryz.prog 172 #[.string s,.int .i64 k0,.func (.func 197) #[] #[]] w fun e w'=>e=.returned (.int .i64 (upto isLe s.data.toList k0))∧w=w':=by
 go_enter Tryz.func172,Tryz.ntmps172
 go_wp2
 go_loop [1] (fun i=>∃ k:Nat,k≤s.size∧i=.int .i64 k∧Hid (upto isLe s.data.toList k=upto isLe s.data.toList k0)) (fun i=>s.size - (intOf i).toNat)
 case atStart=>exact ⟨k0,hk0,rfl,Lib.hid rfl⟩
 case round =>
  obtain ⟨k,hk,rfl,hU⟩:=hrel
  by_cases hlt:k < s.size
  · have hl:k < s.data.toList.length:=by rw [← Lib.size_eq]; exact hlt
    have ha:=at_getD s k hlt
    cases hp:isLe (s.data.toList.getD k 0) with
    | true =>
     have H:=Lib.hid (upto_yes isLe _ k hl hp)
     have hp':isLe s[k]=true:=by rw [ha]; exact hp
     clear hp ha
     go_wp2_with (go_at_call 197; refine (isLetter_any _ _).mono ?_; rintro e w' ⟨rfl,rfl⟩)
     go_round
     case rel=>exact ⟨k+1,by omega,by go_num,Lib.hid (H.out.symm.trans hU.out)⟩
     case measure=>simp [intOf]; omega
    | false =>
     have H:=Lib.hid (upto_no isLe _ k hl hp)
     have hp':isLe s[k]=false:=by rw [ha]; exact hp
     clear hp ha
     go_wp2_with (go_at_call 197; refine (isLetter_any _ _).mono ?_; rintro e w' ⟨rfl,rfl⟩)
     go_ret
     exact ⟨ret_int (by rw [← hU.out,H.out]),rfl⟩
  · have H:=Lib.hid (upto_end isLe s.data.toList k (by rw [← Lib.size_eq]; omega))
    go_wp2
    go_ret
    exact ⟨ret_int (by rw [← hU.out,H.out]),rfl⟩

set_option maxHeartbeats 1000000 in
theorem fixedAt_any (s:ByteArray) (a b:Nat) (w:World) (hL:Laid w) (hab:a≤b) (hb:b≤s.size) (hs:s.size≤1000000) :
 Calls Tryz.prog 214 #[.string s,.int .i64 a,.int .i64 b] w fun e w'=>e=.returned (tokVal (fixTok s.data.toList a b))∧Below w.heap.size w w':=by
 go_enter Tryz.func214,Tryz.ntmps214
 go_wp2
 go_loopw [9] (fun i wr=>∃ k n:Nat,3≤k∧k≤19∧i=.int .i64 k∧wr=((w.alloc (.cells #[.int .i64 0,.int .i64 0,.int .i64 0] 192)).drewN n)∧Hid (fixedFrom (mid s.data.toList a b) (19 - k) k=fixedK (mid s.data.toList a b))) (fun i _=>19 - (intOf i).toNat)
 case atStart=>exact ⟨3,0,by omega,by omega,rfl,rfl,Lib.hid rfl⟩
 case round =>
  obtain ⟨k,n,hk3,hk19,rfl,rfl,hU⟩:=hrel
  by_cases hlt:k≤18
  · have hc:(w.alloc (.cells #[.int .i64 0,.int .i64 0,.int .i64 0] 192)).cell? ⟨0,k,none⟩=some (.string (bytes (texts.getD k []))):=by
     rw [World.cell?_alloc_lt _ _ ⟨0,k,none⟩ (by have:=hL.1; simp only; omega)]; exact hL.text k (by omega)
    by_cases heq:texts.getD k []=mid s.data.toList a b
    · have H:=Lib.hid ((hU.out.symm.trans (fixedFrom_here _ k hlt heq)))
      have ht:((bytes (texts[k]?.getD [])).toList == (s.extract a b).toList)=true:=by rw [same_bytes]; exact decide_eq_true (by simpa [List.getD] using heq)
      clear heq hU
      go_wp2
      go_quiet (fail)
      go_wp2
      refine bodyPost_ret (v:=tokVal (fixTok s.data.toList a b)) ?_ rfl ⟨rfl,?_⟩
      · unfold fixTok; rw [H.out]; simp [results,Tryz.results214,go_sem,tokVal]
      · (repeat (first | exact Below.refl _ _ | refine below_drewN ?_ _ | refine Below.setCell ?_ (by simp) _ | refine Below.alloc ?_ (by simp) _))
    · have H:=Lib.hid ((fixedFrom_next _ k hlt heq).symm.trans hU.out)
      have ht:((bytes (texts[k]?.getD [])).toList == (s.extract a b).toList)=false:=by rw [same_bytes]; exact decide_eq_false (by simpa [List.getD] using heq)
      clear heq hU
      go_wp2
      go_quiet (fail)
      go_wp2
      go_roundw
      case rel=>exact ⟨k+1,_,by omega,by omega,by go_num,rfl,H⟩
      case measure=>simp [intOf]; omega
  · obtain rfl:k=19:=by omega
    have H:=Lib.hid hU.out.symm
    clear hU
    go_wp2
    refine bodyPost_ret (v:=tokVal (fixTok s.data.toList a b)) ?_ rfl ⟨rfl,?_⟩
    · unfold fixTok; rw [H.out]; simp [results,Tryz.results214,go_sem,tokVal,fixedFrom]
    · (repeat (first | exact Below.refl _ _ | refine below_drewN ?_ _ | refine Below.setCell ?_ (by simp) _ | refine Below.alloc ?_ (by simp) _))
end Go.Proofs.YtmhkpjcdkjnlnaaGreatDoor
