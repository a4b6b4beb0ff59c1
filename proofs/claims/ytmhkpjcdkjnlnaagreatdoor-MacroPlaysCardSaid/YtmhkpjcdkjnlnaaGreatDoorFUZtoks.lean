/- Contracts of lex's small functions: the classes of bytes, and where the bytes of a class end. -/
import Derived.Test.YtmhkpjcdkjnlnaaGreatDoorFUZlaid
import Derived.Test.YtmhkpjcdkjnlnaaGreatDoorFUShelf
namespace Go.Proofs.YtmhkpjcdkjnlnaaGreatDoor
open Go.ChangeShapes Go.WideShapes Go.ChangeAt Go.RowKit
set_option linter.unusedVariables false

theorem isSpace_any (c:UInt8) (w:World) :
 Calls Tryz.prog 173 #[.int .u8 (c.toNat:Int)] w fun e w'=>e=.returned (.bool (isSp c))∧w=w':=by
 go_enter Tryz.func173,Tryz.ntmps173
 go_wp2
 go_ret
 refine ⟨ret_bool ?_,rfl⟩
 unfold isSp; rw [Bool.eq_iff_iff]; simp; omega
theorem isDigit_any (c:UInt8) (w:World) :
 Calls Tryz.prog 195 #[.int .u8 (c.toNat:Int)] w fun e w'=>e=.returned (.bool (isDg c))∧w=w':=by
 go_enter Tryz.func195,Tryz.ntmps195
 go_wp2
 all_goals
  go_ret
  refine ⟨ret_bool ?_,rfl⟩
  unfold isDg; rw [Bool.eq_iff_iff]; simp; omega
theorem isLetter_any (c:UInt8) (w:World) :
 Calls Tryz.prog 197 #[.int .u8 (c.toNat:Int)] w fun e w'=>e=.returned (.bool (isLe c))∧w=w':=by
 go_enter Tryz.func197,Tryz.ntmps197
 go_wp2
 all_goals
  go_ret
  refine ⟨ret_bool ?_,rfl⟩
  unfold isLe; rw [Bool.eq_iff_iff]; simp; omega
set_option maxHeartbeats 1000000 in
theorem endOf_space (s:ByteArray) (k0:Nat) (w:World) (hk0:k0≤s.size) (hs:s.size≤1000000) :
 Calls Tryz.prog 172 #[.string s,.int .i64 k0,.func (.func 173) #[] #[]] w fun e w'=>e=.returned (.int .i64 (upto isSp s.data.toList k0))∧w=w':=by
 go_enter Tryz.func172,Tryz.ntmps172
 go_wp2
 go_loop [1] (fun i=>∃ k:Nat,k≤s.size∧i=.int .i64 k∧Hid (upto isSp s.data.toList k=upto isSp s.data.toList k0)) (fun i=>s.size - (intOf i).toNat)
 case atStart=>exact ⟨k0,hk0,rfl,Lib.hid rfl⟩
 case round =>
  obtain ⟨k,hk,rfl,hU⟩:=hrel
  by_cases hlt:k < s.size
  · have hl:k < s.data.toList.length:=by rw [← Lib.size_eq]; exact hlt
    have ha:=at_getD s k hlt
    cases hp:isSp (s.data.toList.getD k 0) with
    | true =>
     have H:=Lib.hid (upto_yes isSp _ k hl hp)
     have hp':isSp s[k]=true:=by rw [ha]; exact hp
     clear hp ha
     go_wp2_with (go_at_call 173; refine (isSpace_any _ _).mono ?_; rintro e w' ⟨rfl,rfl⟩)
     go_round
     case rel=>exact ⟨k+1,by omega,by go_num,Lib.hid (H.out.symm.trans hU.out)⟩
     case measure=>simp [intOf]; omega
    | false =>
     have H:=Lib.hid (upto_no isSp _ k hl hp)
     have hp':isSp s[k]=false:=by rw [ha]; exact hp
     clear hp ha
     go_wp2_with (go_at_call 173; refine (isSpace_any _ _).mono ?_; rintro e w' ⟨rfl,rfl⟩)
     go_ret
     exact ⟨ret_int (by rw [← hU.out,H.out]),rfl⟩
  · have H:=Lib.hid (upto_end isSp s.data.toList k (by rw [← Lib.size_eq]; omega))
    go_wp2
    go_ret
    exact ⟨ret_int (by rw [← hU.out,H.out]),rfl⟩
set_option maxHeartbeats 1000000 in
theorem endOf_digit (s:ByteArray) (k0:Nat) (w:World) (hk0:k0≤s.size) (hs:s.size≤1000000) :
 Calls Tryz.prog 172 #[.string s,.int .i64 k0,.func (.func 195) #[] #[]] w fun e w'=>e=.returned (.int .i64 (upto isDg s.data.toList k0))∧w=w':=by
 go_enter Tryz.func172,Tryz.ntmps172
 go_wp2
 go_loop [1] (fun i=>∃ k:Nat,k≤s.size∧i=.int .i64 k∧Hid (upto isDg s.data.toList k=upto isDg s.data.toList k0)) (fun i=>s.size - (intOf i).toNat)
 case atStart=>exact ⟨k0,hk0,rfl,Lib.hid rfl⟩
 case round =>
  obtain ⟨k,hk,rfl,hU⟩:=hrel
  by_cases hlt:k < s.size
  · have hl:k < s.data.toList.length:=by rw [← Lib.size_eq]; exact hlt
    have ha:=at_getD s k hlt
    cases hp:isDg (s.data.toList.getD k 0) with
    | true =>
     have H:=Lib.hid (upto_yes isDg _ k hl hp)
     have hp':isDg s[k]=true:=by rw [ha]; exact hp
     clear hp ha
     go_wp2_with (go_at_call 195; refine (isDigit_any _ _).mono ?_; rintro e w' ⟨rfl,rfl⟩)
     go_round
     case rel=>exact ⟨k+1,by omega,by go_num,Lib.hid (H.out.symm.trans hU.out)⟩
     case measure=>simp [intOf]; omega
    | false =>
     have H:=Lib.hid (upto_no isDg _ k hl hp)
     have hp':isDg s[k]=false:=by rw [ha]; exact hp
     clear hp ha
     go_wp2_with (go_at_call 195; refine (isDigit_any _ _).mono ?_; rintro e w' ⟨rfl,rfl⟩)
     go_ret
     exact ⟨ret_int (by rw [← hU.out,H.out]),rfl⟩
  · have H:=Lib.hid (upto_end isDg s.data.toList k (by rw [← Lib.size_eq]; omega))
    go_wp2
    go_ret
    exact ⟨ret_int (by rw [← hU.out,H.out]),rfl⟩
set_option maxHeartbeats 1000000 in
theorem endOf_letter (s:ByteArray) (k0:Nat) (w:World) (hk0:k0≤s.size) (hs:s.size≤1000000) :
 Calls Tryz.prog 172 #[.string s,.int .i64 k0,.func (.func 197) #[] #[]] w fun e w'=>e=.returned (.int .i64 (upto isLe s.data.toList k0))∧w=w':=by
 go_enter Tryz.func172,Tryz.ntmps172
 go_wp2
 go_loop [1] (fun i=>∃ k:Nat,k≤s.size∧i=.int .i64 k∧Hid (upto isLe s.data.toList k=upto isLe s.data.toList k0)) (fun i=>s.size - (intOf i).toNat)
 case atStart=>exact ⟨k0,hk0,rfl,Lib.hid rfl⟩
 case round =>
  obtain ⟨k,hk,rfl,hU⟩:=hrel
  by_cases hlt:k < s.size
  · have hl:k < s.data.toList.length:=by rw [← Lib.size_eq]; exact hlt
    have ha:=at_getD s k hlt
    cases hp:isLe (s.data.toList.getD k 0) with
    | true =>
     have H:=Lib.hid (upto_yes isLe _ k hl hp)
     have hp':isLe s[k]=true:=by rw [ha]; exact hp
     clear hp ha
     go_wp2_with (go_at_call 197; refine (isLetter_any _ _).mono ?_; rintro e w' ⟨rfl,rfl⟩)
     go_round
     case rel=>exact ⟨k+1,by omega,by go_num,Lib.hid (H.out.symm.trans hU.out)⟩
     case measure=>simp [intOf]; omega
    | false =>
     have H:=Lib.hid (upto_no isLe _ k hl hp)
     have hp':isLe s[k]=false:=by rw [ha]; exact hp
     clear hp ha
     go_wp2_with (go_at_call 197; refine (isLetter_any _ _).mono ?_; rintro e w' ⟨rfl,rfl⟩)
     go_ret
     exact ⟨ret_int (by rw [← hU.out,H.out]),rfl⟩
  · have H:=Lib.hid (upto_end isLe s.data.toList k (by rw [← Lib.size_eq]; omega))
    go_wp2
    go_ret
    exact ⟨ret_int (by rw [← hU.out,H.out]),rfl⟩

set_option maxHeartbeats 1000000 in
theorem fixedAt_any (s:ByteArray) (a b:Nat) (w:World) (hL:Laid w) (hab:a≤b) (hb:b≤s.size) (hs:s.size≤1000000) :
 Calls Tryz.prog 214 #[.string s,.int .i64 a,.int .i64 b] w fun e w'=>e=.returned (tokVal (fixTok s.data.toList a b))∧Below w.heap.size w w':=by
 go_enter Tryz.func214,Tryz.ntmps214
 go_wp2
 go_loopw [9] (fun i wr=>∃ k n:Nat,3≤k∧k≤19∧i=.int .i64 k∧wr=((w.alloc (.cells #[.int .i64 0,.int .i64 0,.int .i64 0] 192)).drewN n)∧Hid (fixedFrom (mid s.data.toList a b) (19 - k) k=fixedK (mid s.data.toList a b))) (fun i _=>19 - (intOf i).toNat)
 case atStart=>exact ⟨3,0,by omega,by omega,rfl,rfl,Lib.hid rfl⟩
 case round =>
  obtain ⟨k,n,hk3,hk19,rfl,rfl,hU⟩:=hrel
  by_cases hlt:k≤18
  · have hc:(w.alloc (.cells #[.int .i64 0,.int .i64 0,.int .i64 0] 192)).cell? ⟨0,k,none⟩=some (.string (bytes (texts.getD k []))):=by
     rw [World.cell?_alloc_lt _ _ ⟨0,k,none⟩ (by have:=hL.1; simp only; omega)]; exact hL.text k (by omega)
    by_cases heq:texts.getD k []=mid s.data.toList a b
    · have H:=Lib.hid ((hU.out.symm.trans (fixedFrom_here _ k hlt heq)))
      have ht:((bytes (texts[k]?.getD [])).toList == (s.extract a b).toList)=true:=by rw [same_bytes]; exact decide_eq_true (by simpa [List.getD] using heq)
      clear heq hU
      go_wp2
      go_quiet (fail)
      go_wp2
      refine bodyPost_ret (v:=tokVal (fixTok s.data.toList a b)) ?_ rfl ⟨rfl,?_⟩
      · unfold fixTok; rw [H.out]; simp [results,Tryz.results214,go_sem,tokVal]
      · (repeat (first | exact Below.refl _ _ | refine below_drewN ?_ _ | refine Below.setCell ?_ (by simp) _ | refine Below.alloc ?_ (by simp) _))
    · have H:=Lib.hid ((fixedFrom_next _ k hlt heq).symm.trans hU.out)
      have ht:((bytes (texts[k]?.getD [])).toList == (s.extract a b).toList)=false:=by rw [same_bytes]; exact decide_eq_false (by simpa [List.getD] using heq)
      clear heq hU
      go_wp2
      go_quiet (fail)
      go_wp2
      go_roundw
      case rel=>exact ⟨k+1,_,by omega,by omega,by go_num,rfl,H⟩
      case measure=>simp [intOf]; omega
  · obtain rfl:k=19:=by omega
    have H:=Lib.hid hU.out.symm
    clear hU
    go_wp2
    refine bodyPost_ret (v:=tokVal (fixTok s.data.toList a b)) ?_ rfl ⟨rfl,?_⟩
    · unfold fixTok; rw [H.out]; simp [results,Tryz.results214,go_sem,tokVal,fixedFrom]
    · (repeat (first | exact Below.refl _ _ | refine below_drewN ?_ _ | refine Below.setCell ?_ (by simp) _ | refine Below.alloc ?_ (by simp) _))

theorem neq_num_nil (p:Value) (w:World):(binOp .neq 30 (.iface 263 p) .nilIface).run Tryz.prog w=.ok (.bool true) w:=by kernel_rfl
theorem parse_ok (s:ByteArray) (a b:Nat) (w:World) (hb:b≤s.size) (hs:s.size≤1000000) (hn:mid s.data.toList a b ≠ []) (hd:∀ c ∈ mid s.data.toList a b,isDg c=true) (hv:val (mid s.data.toList a b)≤9223372036854775807) :
 Calls Tryz.prog 213 #[.string (s.extract a b),.int .i64 10,.int .i64 64] w fun e w'=>e=.returned (.tuple #[.int .i64 (val (mid s.data.toList a b)),.nilIface])∧Below w.heap.size w w':=by
 have h:Lib.parseIntB 64 (s.extract a b).data.toList=.ok (val (mid s.data.toList a b):Int):=by
  rw [Lib.extract_data]; exact (parseInt_digits _ hn hd).trans (if_pos hv)
 refine (Tryz.strconv_ParseInt_10_at64_ok (s.extract a b) (by rw [extract_size s a b hb]; omega) _ h w).mono ?_
 rintro e w' ⟨rfl,hw⟩
 refine ⟨rfl,?_⟩
 rcases hw with rfl | ⟨t,rfl⟩
 · exact Below.refl _ _
 · exact Lib.bytesWorld_below _ _ _
theorem parse_big (s:ByteArray) (a b:Nat) (w:World) (hL:Laid w) (hb:b≤s.size) (hs:s.size≤1000000) (hn:mid s.data.toList a b ≠ []) (hd:∀ c ∈ mid s.data.toList a b,isDg c=true) (hv:¬ val (mid s.data.toList a b)≤9223372036854775807) :
 Calls Tryz.prog 213 #[.string (s.extract a b),.int .i64 10,.int .i64 64] w fun e w'=>∃ n p,e=.returned (.tuple #[.int .i64 n,.iface 263 p])∧Below w.heap.size w w':=by
 have h:Lib.parseIntB 64 (s.extract a b).data.toList=.range:=by
  rw [Lib.extract_data]; exact (parseInt_digits _ hn hd).trans (if_neg hv)
 obtain ⟨tp,p,hr⟩:=hL.2.2.2.1
 refine (Tryz.strconv_ParseInt_10_at64_range_var (s.extract a b) (by rw [extract_size s a b hb]; omega) h tp p w hr).mono ?_
 rintro e w' ⟨N,rfl,_,_,hb⟩
 exact ⟨_,_,rfl,hb⟩
set_option maxHeartbeats 1000000 in
theorem numberAt_any (s:ByteArray) (k:Nat) (w:World) (hL:Laid w) (hk:k < s.size) (hs:s.size≤1000000) (hd:isDg (s.data.toList.getD k 0)=true) :
 Calls Tryz.prog 196 #[.string s,.int .i64 k] w fun e w'=>e=.returned (tokVal (tokAt s.data.toList k))∧Below w.heap.size w w':=by
 have hl:k < s.data.toList.length:=by rw [← Lib.size_eq]; exact hk
 have hT:Hid (tokAt s.data.toList k=if val (mid s.data.toList k (upto isDg s.data.toList k))≤9223372036854775807 then some ((1,(val (mid s.data.toList k (upto isDg s.data.toList k)):Int),(k:Int)),upto isDg s.data.toList k) else none):=by
  refine Lib.hid ?_; unfold tokAt; rw [if_pos hd]
 have hu:upto isDg s.data.toList k≤s.size:=by have:=upto_le isDg s.data.toList k (by omega); rw [← Lib.size_eq] at this; exact this
 have hu2:=le_upto isDg s.data.toList k
 have hne:=mid_ne s.data.toList isDg k hl hd
 have hdg:=Lib.hid (digits_of_mid s.data.toList k)
 clear hd
 have n1:=neq_nil_nil
 have n2:=neq_num_nil
 generalize hE:upto isDg s.data.toList k=E at *
 have HE:=Lib.hid hE
 clear hE
 by_cases hv:val (mid s.data.toList k E)≤9223372036854775807
 · go_enter Tryz.func196,Tryz.ntmps196
   go_wp2_with fail
   refine (endOf_digit s k _ (by omega) hs).mono ?_
   rintro e w' ⟨rfl,rfl⟩
   rw [HE.out]
   go_wp2_with fail
   refine (parse_ok s k E _ hu hs hne hdg.out hv).mono ?_
   rintro e w1 ⟨rfl,hb⟩
   obtain ⟨hc,hf⟩:=bcell hb
   have hB:=(Blk.new w 192 #[.int .i64 0,.int .i64 0,.int .i64 0]).below hb (by simp)
   go_wp2
   refine bodyPost_ret (v:=tokVal (tokAt s.data.toList k)) ?_ rfl ⟨rfl,?_⟩
   · rw [hT.out,if_pos hv]; exact (results_tok Tryz.results196 _ _ w.heap.size _ _ _ (by rfl) (hB.set3 _ _ _)).trans (by rfl)
   · exact ((((Below.refl _ _).alloc (Nat.le_refl _) _).trans (hb.mono (by simp))).setCell (by simp) _ |>.setCell (by simp) _).setCell (by simp) _
 · have hL1:=hL.after (((Below.refl w.heap.size w).alloc (Nat.le_refl _) (.cells #[.int .i64 0,.int .i64 0,.int .i64 0] 192)))
   have HL1:=Lib.hid hL1
   clear hL1
   go_enter Tryz.func196,Tryz.ntmps196
   go_wp2_with fail
   refine (endOf_digit s k _ (by omega) hs).mono ?_
   rintro e w' ⟨rfl,rfl⟩
   rw [HE.out]
   go_wp2_with fail
   refine (parse_big s k E _ HL1.out hu hs hne hdg.out hv).mono ?_
   rintro e w1 ⟨nn,pp,rfl,hb⟩
   obtain ⟨hc,hf⟩:=bcell hb
   have hB:=(Blk.new w 192 #[.int .i64 0,.int .i64 0,.int .i64 0]).below hb (by simp)
   go_wp2
   refine bodyPost_ret (v:=tokVal (tokAt s.data.toList k)) ?_ rfl ⟨rfl,?_⟩
   · rw [hT.out,if_neg hv]; exact (results_tok Tryz.results196 _ _ w.heap.size _ _ _ (by rfl) (hB.set3 _ _ _)).trans (by rfl)
   · exact ((((Below.refl _ _).alloc (Nat.le_refl _) _).trans (hb.mono (by simp))).setCell (by simp) _ |>.setCell (by simp) _).setCell (by simp) _
set_option maxHeartbeats 1000000 in
theorem wordAt_one (s:ByteArray) (k:Nat) (w:World) (hk:k < s.size) (hs:s.size≤1000000) (hd:isDg (s.data.toList.getD k 0)=false) (hl:isLe (s.data.toList.getD k 0)=true) (h1:upto isLe s.data.toList k=k+1) :
 Calls Tryz.prog 198 #[.string s,.int .i64 k] w fun e w'=>e=.returned (tokVal (tokAt s.data.toList k))∧Below w.heap.size w w':=by
 have hT:Hid (tokAt s.data.toList k=some ((2,((s.data.toList.getD k 0).toNat:Int) - 97,(k:Int)),k+1)):=by
  refine Lib.hid ?_; unfold tokAt; rw [if_neg (by rw [hd]; exact Bool.false_ne_true),if_pos hl,if_pos h1]
 have ha:=at_getD s k hk
 rw [← ha] at hT hl
 simp only [isLe,Bool.and_eq_true,decide_eq_true_eq] at hl
 have b1:97≤(s[k].toNat:Int):=by omega
 have b2:(s[k].toNat:Int)≤122:=by omega
 have HE:=Lib.hid h1
 clear h1 hd ha hl
 go_enter Tryz.func198,Tryz.ntmps198
 go_wp2_with fail
 refine (endOf_letter s k _ (by omega) hs).mono ?_
 rintro e w' ⟨rfl,rfl⟩
 rw [HE.out]
 go_wp2
 refine bodyPost_ret (v:=tokVal (tokAt s.data.toList k)) ?_ rfl ⟨rfl,?_⟩
 · rw [hT.out]; exact (results_tok Tryz.results198 _ _ w.heap.size _ _ _ (by rfl) (Blk.new w 192 _)).trans (by rfl)
 · exact (Below.refl _ _).alloc (Nat.le_refl _) _
set_option maxHeartbeats 1000000 in
theorem wordAt_more (s:ByteArray) (k:Nat) (w:World) (hL:Laid w) (hk:k < s.size) (hs:s.size≤1000000) (hd:isDg (s.data.toList.getD k 0)=false) (hl:isLe (s.data.toList.getD k 0)=true) (h1:¬ upto isLe s.data.toList k=k+1) :
 Calls Tryz.prog 198 #[.string s,.int .i64 k] w fun e w'=>e=.returned (tokVal (tokAt s.data.toList k))∧Below w.heap.size w w':=by
 have hT:Hid (tokAt s.data.toList k=fixTok s.data.toList k (upto isLe s.data.toList k)):=by
  refine Lib.hid ?_; unfold tokAt; rw [if_neg (by rw [hd]; exact Bool.false_ne_true),if_pos hl,if_neg h1]
 have hu:upto isLe s.data.toList k≤s.size:=by have:=upto_le isLe s.data.toList k (by rw [← Lib.size_eq]; omega); rw [← Lib.size_eq] at this; exact this
 have hu2:=le_upto isLe s.data.toList k
 have HL1:=Lib.hid (hL.after (((Below.refl w.heap.size w).alloc (Nat.le_refl _) (.cells #[.int .i64 0,.int .i64 0,.int .i64 0] 192))))
 generalize hE:upto isLe s.data.toList k=E at *
 have HE:=Lib.hid hE
 have h2:((E:Int) == (k:Int)+1)=false:=by simp; omega
 clear h1 hd hl hE
 obtain ⟨a,b,c,d,f,hv⟩:=tokVal_at (fixTok s.data.toList k E)
 have HV:=Lib.hid hv
 clear hv
 go_enter Tryz.func198,Tryz.ntmps198
 go_wp2_with fail
 refine (endOf_letter s k _ (by omega) hs).mono ?_
 rintro e w' ⟨rfl,rfl⟩
 rw [HE.out]
 go_wp2_with fail
 refine (fixedAt_any s k E _ HL1.out hu2 hu hs).mono ?_
 rintro e w1 ⟨rfl,hb⟩
 rw [HV.out]
 obtain ⟨hc,hf⟩:=bcell hb
 have hB:=(Blk.new w 192 #[.int .i64 0,.int .i64 0,.int .i64 0]).below hb (by simp)
 have HB:=Lib.hid hB
 clear hB
 go_wp2
 refine bodyPost_ret (v:=tokVal (tokAt s.data.toList k)) ?_ rfl ⟨rfl,?_⟩
 · rw [hT.out,HV.out]; exact (results_tok Tryz.results198 _ _ w.heap.size _ _ _ (by rfl) (HB.out.set3 _ _ _)).trans (by rfl)
 · exact ((((Below.refl _ _).alloc (Nat.le_refl _) _).trans (hb.mono (by simp))).setCell (by simp) _ |>.setCell (by simp) _).setCell (by simp) _

set_option maxHeartbeats 1000000 in
theorem signAt_from (s:ByteArray) (k j:Nat) (w:World) (hL:Laid w) (hk:k < s.size) (hs:s.size≤1000000) (hj:(k+2≤s.size∧j=2) ∨ (s.size=k+1∧j=1)) :
 Calls Tryz.prog 199 #[.string s,.int .i64 k] w fun e w'=>e=.returned (tokVal (signFrom s.data.toList k j))∧Below w.heap.size w w':=by
 go_enter Tryz.func199,Tryz.ntmps199
 go_wp2
 go_loopw [7] (fun i wr=>∃ m:Nat,k≤m∧m≤s.size∧i=.int .i64 (m:Int)∧Hid (signFrom s.data.toList k (m - k)=signFrom s.data.toList k j)∧Below w.heap.size w wr∧Hid (Blk wr w.heap.size 192 #[.int .i64 0,.int .i64 0,.int .i64 0])) (fun i _=>(intOf i).toNat)
 case atStart=>exact ⟨k+j,by omega,by omega,by congr 1; omega,Lib.hid (by rw [Nat.add_sub_cancel_left]),(Below.refl _ _).alloc (Nat.le_refl _) _,Lib.hid (Blk.new w 192 _)⟩
 case round =>
  obtain ⟨m,hkm,hm,rfl,hU,hb,hB⟩:=hrel
  obtain ⟨wo,rfl⟩:∃ wo:World,wo=wr:=⟨_,rfl⟩
  have HL:=Lib.hid (hL.after hb)
  have HW:=Lib.hid (show w.heap.size < wo.heap.size from hB.out.lt)
  by_cases hlt:k < m
  · cases hr:fixTok s.data.toList k m with
    | none =>
     have HH:=Lib.hid ((signFrom_none _ k m hlt hr).symm.trans hU.out)
     have HR:=Lib.hid hr
     clear hU hr
     go_wp2_with fail
     refine (fixedAt_any s k m _ HL.out (by omega) hm hs).mono ?_
     rintro e w1 ⟨rfl,hb1⟩
     rw [HR.out,tokVal]
     have hB1:=Lib.hid (hB.out.below hb1 HW.out)
     have HS:=Lib.hid hb1.size
     go_wp2
     go_roundw
     case rel=>exact ⟨m - 1,by omega,by omega,by go_num,HH,(hb.trans (hb1.mono hb.size)).alloc (Nat.le_trans hb.size HS.out) _,Lib.hid (hB1.out.alloc _)⟩
     case measure=>simp [intOf]; omega
    | some x =>
     have HH:=Lib.hid (hU.out.symm.trans (signFrom_some _ k m x hlt hr))
     have HX:=Lib.hid (fixTok_some hr)
     have HR:=Lib.hid hr
     clear hU hr
     go_wp2_with fail
     refine (fixedAt_any s k m _ HL.out (by omega) hm hs).mono ?_
     rintro e w1 ⟨rfl,hb1⟩
     rw [HR.out,tokVal]
     have hB1:=Lib.hid (hB.out.below hb1 HW.out)
     have HS:=Lib.hid hb1.size
     obtain ⟨⟨c0,c1,c2⟩,f0,f1,f2⟩:=(hB1.out.alloc (.cells #[.int .i64 x.1.1,.int .i64 x.1.2.1,.int .i64 x.1.2.2] 192)).facts3
     go_wp2
     refine bodyPost_ret (v:=tokVal (signFrom s.data.toList k j)) ?_ rfl ⟨rfl,?_⟩
     · rw [HH.out,tokVal,HX.out]
       exact (results_tok Tryz.results199 _ _ w.heap.size _ _ _ (by rfl) ((hB1.out.alloc _).set3 _ _ _)).trans (by rfl)
     · exact (((((hb.trans (hb1.mono hb.size)).alloc (Nat.le_trans hb.size HS.out) _).setCell (by simp) _).setCell (by simp) _).setCell (by simp) _)
  · obtain rfl:m=k:=by omega
    have H:=hU.out.symm
    rw [Nat.sub_self,signFrom] at H
    have HH:=Lib.hid H
    clear H hU
    obtain ⟨⟨c0,c1,c2⟩,f0,f1,f2⟩:=hB.out.facts3
    go_wp2
    refine bodyPost_ret (v:=tokVal (signFrom s.data.toList m j)) ?_ rfl ⟨rfl,?_⟩
    · rw [HH.out]; exact (results_tok Tryz.results199 _ _ w.heap.size _ _ _ (by rfl) (hB.out.set3 _ _ _)).trans (by rfl)
    · exact ((hb.setCell (by simp) _).setCell (by simp) _).setCell (by simp) _
theorem signAt_any (s:ByteArray) (k:Nat) (w:World) (hL:Laid w) (hk:k < s.size) (hs:s.size≤1000000) (hd:isDg (s.data.toList.getD k 0)=false) (hl:isLe (s.data.toList.getD k 0)=false) :
 Calls Tryz.prog 199 #[.string s,.int .i64 k] w fun e w'=>e=.returned (tokVal (tokAt s.data.toList k))∧Below w.heap.size w w':=by
 have hT:tokAt s.data.toList k=if k+2≤s.data.toList.length∧fixedK (mid s.data.toList k (k+2)) ≠ none then fixTok s.data.toList k (k+2) else fixTok s.data.toList k (k+1):=by
  unfold tokAt; rw [if_neg (by rw [hd]; exact Bool.false_ne_true),if_neg (by rw [hl]; exact Bool.false_ne_true)]
 have hz:=Lib.size_eq s
 by_cases h2:k+2≤s.size
 · rw [hT,← signFrom_two s.data.toList k (by omega)]
   exact signAt_from s k 2 w hL hk hs (.inl ⟨h2,rfl⟩)
 · rw [hT,← signFrom_one s.data.toList k (by omega)]
   exact signAt_from s k 1 w hL hk hs (.inr ⟨by omega,rfl⟩)
set_option maxHeartbeats 1000000 in
theorem tokenAt_digit (s:ByteArray) (k:Nat) (w:World) (hL:Laid w) (hk:k < s.size) (hs:s.size≤1000000) (hd:isDg (s.data.toList.getD k 0)=true) :
 Calls Tryz.prog 174 #[.string s,.int .i64 k] w fun e w'=>e=.returned (tokVal (tokAt s.data.toList k))∧Below w.heap.size w w':=by
 have HL1:=Lib.hid (hL.after (((Below.refl w.heap.size w).alloc (Nat.le_refl _) (.cells #[.int .i64 0,.int .i64 0,.int .i64 0] 192))))
 have hd':isDg s[k]=true:=by rw [at_getD s k hk]; exact hd
 have HD:=Lib.hid hd
 clear hd
 obtain ⟨a,b,c,d,f,hv⟩:=tokVal_at (tokAt s.data.toList k)
 have HV:=Lib.hid hv
 clear hv
 go_enter Tryz.func174,Tryz.ntmps174
 go_wp2_with fail
 refine (isDigit_any s[k] _).mono ?_
 rintro e w' ⟨rfl,rfl⟩
 go_wp2_with fail
 refine (numberAt_any s k _ HL1.out hk hs HD.out).mono ?_
 rintro e w1 ⟨rfl,hb⟩
 rw [HV.out]
 obtain ⟨hc,hf⟩:=bcell hb
 have HB:=Lib.hid ((Blk.new w 192 #[.int .i64 0,.int .i64 0,.int .i64 0]).below hb (by simp))
 go_wp2
 refine bodyPost_ret (v:=tokVal (tokAt s.data.toList k)) ?_ rfl ⟨rfl,?_⟩
 · rw [HV.out]; exact (results_tok Tryz.results174 _ _ w.heap.size _ _ _ (by rfl) (HB.out.set3 _ _ _)).trans (by rfl)
 · exact ((((Below.refl _ _).alloc (Nat.le_refl _) _).trans (hb.mono (by simp))).setCell (by simp) _ |>.setCell (by simp) _).setCell (by simp) _
theorem wordAt_any (s:ByteArray) (k:Nat) (w:World) (hL:Laid w) (hk:k < s.size) (hs:s.size≤1000000) (hd:isDg (s.data.toList.getD k 0)=false) (hl:isLe (s.data.toList.getD k 0)=true) :
 Calls Tryz.prog 198 #[.string s,.int .i64 k] w fun e w'=>e=.returned (tokVal (tokAt s.data.toList k))∧Below w.heap.size w w':=by
 by_cases h1:upto isLe s.data.toList k=k+1
 · exact wordAt_one s k w hk hs hd hl h1
 · exact wordAt_more s k w hL hk hs hd hl h1
set_option maxHeartbeats 1000000 in
theorem tokenAt_letter (s:ByteArray) (k:Nat) (w:World) (hL:Laid w) (hk:k < s.size) (hs:s.size≤1000000) (hd:isDg (s.data.toList.getD k 0)=false) (hl:isLe (s.data.toList.getD k 0)=true) :
 Calls Tryz.prog 174 #[.string s,.int .i64 k] w fun e w'=>e=.returned (tokVal (tokAt s.data.toList k))∧Below w.heap.size w w':=by
 have HL1:=Lib.hid (hL.after (((Below.refl w.heap.size w).alloc (Nat.le_refl _) (.cells #[.int .i64 0,.int .i64 0,.int .i64 0] 192))))
 have hd':isDg s[k]=false:=by rw [at_getD s k hk]; exact hd
 have hl':isLe s[k]=true:=by rw [at_getD s k hk]; exact hl
 have HD:=Lib.hid hd
 have HL:=Lib.hid hl
 clear hd hl
 obtain ⟨a,b,c,d,f,hv⟩:=tokVal_at (tokAt s.data.toList k)
 have HV:=Lib.hid hv
 clear hv
 go_enter Tryz.func174,Tryz.ntmps174
 go_wp2_with fail
 refine (isDigit_any s[k] _).mono ?_
 rintro e w' ⟨rfl,rfl⟩
 go_wp2_with fail
 refine (isLetter_any s[k] _).mono ?_
 rintro e w' ⟨rfl,rfl⟩
 go_wp2_with fail
 refine (wordAt_any s k _ HL1.out hk hs HD.out HL.out).mono ?_
 rintro e w1 ⟨rfl,hb⟩
 rw [HV.out]
 obtain ⟨hc,hf⟩:=bcell hb
 have HB:=Lib.hid ((Blk.new w 192 #[.int .i64 0,.int .i64 0,.int .i64 0]).below hb (by simp))
 go_wp2
 refine bodyPost_ret (v:=tokVal (tokAt s.data.toList k)) ?_ rfl ⟨rfl,?_⟩
 · rw [HV.out]; exact (results_tok Tryz.results174 _ _ w.heap.size _ _ _ (by rfl) (HB.out.set3 _ _ _)).trans (by rfl)
 · exact ((((Below.refl _ _).alloc (Nat.le_refl _) _).trans (hb.mono (by simp))).setCell (by simp) _ |>.setCell (by simp) _).setCell (by simp) _
set_option maxHeartbeats 1000000 in
theorem tokenAt_sign (s:ByteArray) (k:Nat) (w:World) (hL:Laid w) (hk:k < s.size) (hs:s.size≤1000000) (hd:isDg (s.data.toList.getD k 0)=false) (hl:isLe (s.data.toList.getD k 0)=false) :
 Calls Tryz.prog 174 #[.string s,.int .i64 k] w fun e w'=>e=.returned (tokVal (tokAt s.data.toList k))∧Below w.heap.size w w':=by
 have HL1:=Lib.hid (hL.after (((Below.refl w.heap.size w).alloc (Nat.le_refl _) (.cells #[.int .i64 0,.int .i64 0,.int .i64 0] 192))))
 have hd':isDg s[k]=false:=by rw [at_getD s k hk]; exact hd
 have hl':isLe s[k]=false:=by rw [at_getD s k hk]; exact hl
 have HD:=Lib.hid hd
 have HL:=Lib.hid hl
 clear hd hl
 obtain ⟨a,b,c,d,f,hv⟩:=tokVal_at (tokAt s.data.toList k)
 have HV:=Lib.hid hv
 clear hv
 go_enter Tryz.func174,Tryz.ntmps174
 go_wp2_with fail
 refine (isDigit_any s[k] _).mono ?_
 rintro e w' ⟨rfl,rfl⟩
 go_wp2_with fail
 refine (isLetter_any s[k] _).mono ?_
 rintro e w' ⟨rfl,rfl⟩
 go_wp2_with fail
 refine (signAt_any s k _ HL1.out hk hs HD.out HL.out).mono ?_
 rintro e w1 ⟨rfl,hb⟩
 rw [HV.out]
 obtain ⟨hc,hf⟩:=bcell hb
 have HB:=Lib.hid ((Blk.new w 192 #[.int .i64 0,.int .i64 0,.int .i64 0]).below hb (by simp))
 go_wp2
 refine bodyPost_ret (v:=tokVal (tokAt s.data.toList k)) ?_ rfl ⟨rfl,?_⟩
 · rw [HV.out]; exact (results_tok Tryz.results174 _ _ w.heap.size _ _ _ (by rfl) (HB.out.set3 _ _ _)).trans (by rfl)
 · exact ((((Below.refl _ _).alloc (Nat.le_refl _) _).trans (hb.mono (by simp))).setCell (by simp) _ |>.setCell (by simp) _).setCell (by simp) _
theorem tokenAt_any (s:ByteArray) (k:Nat) (w:World) (hL:Laid w) (hk:k < s.size) (hs:s.size≤1000000) :
 Calls Tryz.prog 174 #[.string s,.int .i64 k] w fun e w'=>e=.returned (tokVal (tokAt s.data.toList k))∧Below w.heap.size w w':=by
 cases hd:isDg (s.data.toList.getD k 0) with
 | true=>exact tokenAt_digit s k w hL hk hs hd
 | false =>
  cases hl:isLe (s.data.toList.getD k 0) with
  | true=>exact tokenAt_letter s k w hL hk hs hd hl
  | false=>exact tokenAt_sign s k w hL hk hs hd hl

theorem endOf_space0 (s:ByteArray) (w:World) (hs:s.size≤1000000) :
 Calls Tryz.prog 172 #[.string s,.int .i64 0,.func (.func 173) #[] #[]] w fun e w'=>e=.returned (.int .i64 (upto isSp s.data.toList 0))∧w=w':=by
 have h:=endOf_space s 0 w (Nat.zero_le _) hs
 rwa [show ((0:Nat):Int)=0 from rfl] at h
set_option maxHeartbeats 1000000 in
theorem tokens_large (s:ByteArray) (w:World) (hs:200 < s.size) (hs2:s.size≤1000000) :
 Calls Tryz.prog 134 #[.string s] w fun e w'=>e=.returned (.tuple #[.slice none 0 0,.iface 82 (.int .i64 3)])∧w=w':=by
 go_enter Tryz.func134,Tryz.ntmps134
 go_wp2
 go_ret2
 exact ⟨rfl,rfl⟩
set_option maxHeartbeats 2000000 in
set_option maxRecDepth 100000 in
theorem tokens_any (s:ByteArray) (w:World) (hL:Laid w) (hs:s.size≤200) :
 Calls Tryz.prog 134 #[.string s] w (TokPost (scan s.data.toList 0 []) w):=by
 obtain ⟨i0,hi,hz0,hz1,hz2⟩:=info_parts Tryz.info40
 have HI:=Lib.hid hi
 have HZ0:=Lib.hid hz0
 have HZ1:=Lib.hid hz1
 have HZ2:=Lib.hid hz2
 clear hi hz0 hz1 hz2
 have hz:=Lib.size_eq s
 have HZ:=Lib.hid hz
 have hu0:upto isSp s.data.toList 0≤s.size:=by rw [hz]; exact upto_le isSp s.data.toList 0 (by omega)
 have HR:=Lib.hid (scan_over s.data.toList 0 [])
 have HO:=Lib.hid (fun h=>upto_off isSp s.data.toList 0 h)
 clear hz
 generalize hE:upto isSp s.data.toList 0=E at *
 have HE:=Lib.hid hE
 clear hE
 generalize hRR:scan s.data.toList 0 []=R at *
 clear hRR
 go_enter Tryz.func134,Tryz.ntmps134
 go_wp2_with fail
 refine (endOf_space0 s _ (by omega)).mono ?_
 rintro e w' ⟨rfl,rfl⟩
 rw [HE.out]
 go_wp2_with fail
 go_loopw [4,5] (fun v i wr=>∃ (k:Nat) (ts:List Tk),k≤s.size∧ts.length≤k∧i=.int .i64 (k:Int)∧Hid (scan s.data.toList k ts=R)∧Hid (k < s.data.toList.length→isSp (s.data.toList.getD k 0)=false)∧Below w.heap.size w wr∧Hid (wr.ownsRow w.heap.size 192 3 v ts.length (tksCells ts))) (fun _ i _=>s.size - (intOf i).toNat)
 case atStart=>exact ⟨E,[],hu0,by simp,rfl,Lib.hid HR.out.symm,HO,Below.refl _ _,Lib.hid (World.ownsRow_nil _ _ _ _)⟩
 case round =>
  obtain ⟨k,ts,hk,hts,rfl,hU,hO,hb,hown⟩:=hrel
  obtain ⟨wo,rfl⟩:∃ wo:World,wo=wr:=⟨_,rfl⟩
  have HL:=Lib.hid (hL.after hb)
  by_cases hlt:k < s.size
  · have hlt':k < s.data.toList.length:=by rw [← HZ.out]; exact hlt
    have hsp:=Lib.hid (hO.out hlt')
    clear hO
    cases hr:tokAt s.data.toList k with
    | none =>
     have HH:=Lib.hid (hU.out.symm.trans (scan_bad _ k ts hlt' hsp.out hr))
     have HT:=Lib.hid hr
     clear hr hU
     go_wp2_with fail
     refine (tokenAt_any s k _ HL.out hlt (by omega)).mono ?_
     rintro e w1 ⟨rfl,hb1⟩
     rw [HT.out,tokVal]
     have HS:=Lib.hid hb1.size
     go_wp2
     go_ret2
     exact ⟨((hb.trans (hb1.mono hb.size)).alloc (Nat.le_trans hb.size HS.out) _).alloc (Nat.le_trans hb.size (Nat.le_trans HS.out (by simp))) _,.inr ⟨k,_,HH.out,rfl,Nat.le_trans hb.size (Nat.le_trans HS.out (Nat.le_succ _)),Blk.new_at (w1.alloc _) 108 _ _ (by simp)⟩⟩
    | some x =>
     obtain ⟨t,x⟩:=x
     have HH:=Lib.hid ((scan_tok _ k x t ts hlt' hsp.out hr).symm.trans hU.out)
     have HT:=Lib.hid hr
     obtain ⟨g1,g2⟩:=tokAt_gt hlt' hr
     clear hr hU
     go_wp2_with fail
     refine (tokenAt_any s k _ HL.out hlt (by omega)).mono ?_
     rintro e w1 ⟨rfl,hb1⟩
     rw [HT.out,tokVal]
     have HS:=Lib.hid hb1.size
     have HN:=Lib.hid (own_below hown.out hb1)
     go_wp2_with (at_builtin; refine wpList_append_own_at _ rfl _ _ 136 rfl w.heap.size 192 i0 (.agg #[.int .i64 0,.int .i64 0,.int .i64 0]) 3 24 Tryz.underlying136 HI.out HZ0.out HZ1.out HZ2.out rfl (by decide) _ _ _ rfl ((HN.out.alloc _).alloc _) ⟨w1.heap.size+1,0,none⟩ 1 1 (tkCells t) rfl rfl ?c1 ?c2 ?c3 ?c4 ?c5 ?_)
     case c1=>exact new_cells _ _ _ _ (by simp)
     case c2=>exact tk_one t
     case c3=>unfold maxLen; omega
     case c4=>omega
     case c5=>simp; have:=hb.size; have:=HS.out; omega
     intro v' w2 hown' hgrow _ _
     have HG:=Lib.hid (Below.grown (((hb.trans (hb1.mono hb.size)).alloc (Nat.le_trans hb.size HS.out) _).alloc (Nat.le_trans hb.size (Nat.le_trans HS.out (by simp))) _) hgrow (by simp; have:=hb.size; have:=HS.out; omega) (fun g hg=>(HN.out.lt g hg).1))
     have HO':=Lib.hid hown'
     clear hown' hgrow
     go_wp2_with fail
     refine (endOf_space s x _ (by rw [HZ.out]; exact g2) (by omega)).mono ?_
     rintro e w' ⟨rfl,rfl⟩
     have u1:=le_upto isSp s.data.toList x
     have u2':=upto_le isSp s.data.toList x g2
     go_wp2
     go_roundw
     case rel=>exact ⟨upto isSp s.data.toList x,ts ++ [t],by rw [HZ.out]; exact u2',by simp; omega,rfl,Lib.hid ((scan_over _ x _).symm.trans HH.out),Lib.hid (fun h=>upto_off isSp _ x h),HG.out,Lib.hid (by rw [tksCells_snoc]; simpa using HO'.out)⟩
     case measure=>simp [intOf]; have:=HZ.out; omega
  · have HH:=Lib.hid (hU.out.symm.trans (scan_end _ k ts (by rw [← HZ.out]; omega)))
    clear hO hU
    go_wp2
    go_ret2
    refine ⟨hb,.inl ⟨by rw [HH.out],_,rfl,?_⟩⟩
    rw [HH.out]
    exact hown.out
end Go.Proofs.YtmhkpjcdkjnlnaaGreatDoor
