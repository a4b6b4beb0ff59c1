/- Contracts of lex.signAt and tokenAt: the token that begins at a byte of a text. -/
import Derived.Test.YtmbmijhfoncncaaGreatDoorZgen
import Derived.Test.YtmbmijhfoncncaaGreatDoorZtok
namespace Go.Proofs.YtmbmijhfoncncaaGreatDoor
open Go.ChangeShapes Go.WideShapes Go.ChangeAt Go.RowKit
set_option linter.unusedVariables false

set_option maxHeartbeats 1000000 in
theorem signAt_from (s : ByteArray) (k j : Nat) (w : World) (hL : Laid w) (hk : k < s.size) (hs : s.size ≤ 1000000) (hj : (k + 2 ≤ s.size ∧ j = 2) ∨ (s.size = k + 1 ∧ j = 1)) :
    Calls Tryz.prog 66 #[.string s, .int .i64 k] w fun e w' => e = .returned (tokVal (signFrom s.data.toList k j)) ∧ Below w.heap.size w w' := by
  go_enter Tryz.func66, Tryz.ntmps66
  go_wp2
  go_loopw [7] (fun i wr => ∃ m : Nat, k ≤ m ∧ m ≤ s.size ∧ i = .int .i64 (m : Int) ∧ Hid (signFrom s.data.toList k (m - k) = signFrom s.data.toList k j) ∧ Below w.heap.size w wr ∧ Hid (Blk wr w.heap.size 101 #[.int .i64 0, .int .i64 0, .int .i64 0])) (fun i _ => (intOf i).toNat)
  case atStart => exact ⟨k + j, by omega, by omega, by congr 1; omega, Lib.hid (by rw [Nat.add_sub_cancel_left]), (Below.refl _ _).alloc (Nat.le_refl _) _, Lib.hid (Blk.new w 101 _)⟩
  case round =>
    obtain ⟨m, hkm, hm, rfl, hU, hb, hB⟩ := hrel
    obtain ⟨wo, rfl⟩ : ∃ wo : World, wo = wr := ⟨_, rfl⟩
    have HL := Lib.hid (hL.after hb)
    have HW := Lib.hid (show w.heap.size < wo.heap.size from hB.out.lt)
    by_cases hlt : k < m
    · cases hr : fixTok s.data.toList k m with
      | none =>
        have HH := Lib.hid ((signFrom_none _ k m hlt hr).symm.trans hU.out)
        have HR := Lib.hid hr
        clear hU hr
        go_wp2_with fail
        refine (fixedAt_any s k m _ HL.out (by omega) hm hs).mono ?_
        rintro e w1 ⟨rfl, hb1⟩
        rw [HR.out, tokVal]
        have hB1 := Lib.hid (hB.out.below hb1 HW.out)
        have HS := Lib.hid hb1.size
        go_wp2
        go_roundw
        case rel => exact ⟨m - 1, by omega, by omega, by go_num, HH, (hb.trans (hb1.mono hb.size)).alloc (Nat.le_trans hb.size HS.out) _, Lib.hid (hB1.out.alloc _)⟩
        case measure => simp [intOf]; omega
      | some x =>
        have HH := Lib.hid (hU.out.symm.trans (signFrom_some _ k m x hlt hr))
        have HX := Lib.hid (fixTok_some hr)
        have HR := Lib.hid hr
        clear hU hr
        go_wp2_with fail
        refine (fixedAt_any s k m _ HL.out (by omega) hm hs).mono ?_
        rintro e w1 ⟨rfl, hb1⟩
        rw [HR.out, tokVal]
        have hB1 := Lib.hid (hB.out.below hb1 HW.out)
        have HS := Lib.hid hb1.size
        obtain ⟨⟨c0, c1, c2⟩, f0, f1, f2⟩ := (hB1.out.alloc (.cells #[.int .i64 x.1.1, .int .i64 x.1.2.1, .int .i64 x.1.2.2] 101)).facts3
        go_wp2
        refine bodyPost_ret (v := tokVal (signFrom s.data.toList k j)) ?_ rfl ⟨rfl, ?_⟩
        · rw [HH.out, tokVal, HX.out]
          exact (results_tok Tryz.results66 _ _ w.heap.size _ _ _ (by rfl) ((hB1.out.alloc _).set3 _ _ _)).trans (by rfl)
        · exact (((((hb.trans (hb1.mono hb.size)).alloc (Nat.le_trans hb.size HS.out) _).setCell (by simp) _).setCell (by simp) _).setCell (by simp) _)
    · obtain rfl : m = k := by omega
      have H := hU.out.symm
      rw [Nat.sub_self, signFrom] at H
      have HH := Lib.hid H
      clear H hU
      obtain ⟨⟨c0, c1, c2⟩, f0, f1, f2⟩ := hB.out.facts3
      go_wp2
      refine bodyPost_ret (v := tokVal (signFrom s.data.toList m j)) ?_ rfl ⟨rfl, ?_⟩
      · rw [HH.out]; exact (results_tok Tryz.results66 _ _ w.heap.size _ _ _ (by rfl) (hB.out.set3 _ _ _)).trans (by rfl)
      · exact ((hb.setCell (by simp) _).setCell (by simp) _).setCell (by simp) _
theorem signAt_any (s : ByteArray) (k : Nat) (w : World) (hL : Laid w) (hk : k < s.size) (hs : s.size ≤ 1000000) (hd : isDg (s.data.toList.getD k 0) = false) (hl : isLe (s.data.toList.getD k 0) = false) :
    Calls Tryz.prog 66 #[.string s, .int .i64 k] w fun e w' => e = .returned (tokVal (tokAt s.data.toList k)) ∧ Below w.heap.size w w' := by
  have hT : tokAt s.data.toList k = if k + 2 ≤ s.data.toList.length ∧ fixedK (mid s.data.toList k (k + 2)) ≠ none then fixTok s.data.toList k (k + 2) else fixTok s.data.toList k (k + 1) := by
    unfold tokAt; rw [if_neg (by rw [hd]; exact Bool.false_ne_true), if_neg (by rw [hl]; exact Bool.false_ne_true)]
  have hz := Lib.size_eq s
  by_cases h2 : k + 2 ≤ s.size
  · rw [hT, ← signFrom_two s.data.toList k (by omega)]
    exact signAt_from s k 2 w hL hk hs (.inl ⟨h2, rfl⟩)
  · rw [hT, ← signFrom_one s.data.toList k (by omega)]
    exact signAt_from s k 1 w hL hk hs (.inr ⟨by omega, rfl⟩)
set_option maxHeartbeats 1000000 in
theorem tokenAt_digit (s : ByteArray) (k : Nat) (w : World) (hL : Laid w) (hk : k < s.size) (hs : s.size ≤ 1000000) (hd : isDg (s.data.toList.getD k 0) = true) :
    Calls Tryz.prog 57 #[.string s, .int .i64 k] w fun e w' => e = .returned (tokVal (tokAt s.data.toList k)) ∧ Below w.heap.size w w' := by
  have HL1 := Lib.hid (hL.after (((Below.refl w.heap.size w).alloc (Nat.le_refl _) (.cells #[.int .i64 0, .int .i64 0, .int .i64 0] 101))))
  have hd' : isDg s[k] = true := by rw [at_getD s k hk]; exact hd
  have HD := Lib.hid hd
  clear hd
  obtain ⟨a, b, c, d, f, hv⟩ := tokVal_at (tokAt s.data.toList k)
  have HV := Lib.hid hv
  clear hv
  go_enter Tryz.func57, Tryz.ntmps57
  go_wp2_with fail
  refine (isDigit_any s[k] _).mono ?_
  rintro e w' ⟨rfl, rfl⟩
  go_wp2_with fail
  refine (numberAt_any s k _ HL1.out hk hs HD.out).mono ?_
  rintro e w1 ⟨rfl, hb⟩
  rw [HV.out]
  obtain ⟨hc, hf⟩ := bcell hb
  have HB := Lib.hid ((Blk.new w 101 #[.int .i64 0, .int .i64 0, .int .i64 0]).below hb (by simp))
  go_wp2
  refine bodyPost_ret (v := tokVal (tokAt s.data.toList k)) ?_ rfl ⟨rfl, ?_⟩
  · rw [HV.out]; exact (results_tok Tryz.results57 _ _ w.heap.size _ _ _ (by rfl) (HB.out.set3 _ _ _)).trans (by rfl)
  · exact ((((Below.refl _ _).alloc (Nat.le_refl _) _).trans (hb.mono (by simp))).setCell (by simp) _ |>.setCell (by simp) _).setCell (by simp) _
theorem wordAt_any (s : ByteArray) (k : Nat) (w : World) (hL : Laid w) (hk : k < s.size) (hs : s.size ≤ 1000000) (hd : isDg (s.data.toList.getD k 0) = false) (hl : isLe (s.data.toList.getD k 0) = true) :
    Calls Tryz.prog 65 #[.string s, .int .i64 k] w fun e w' => e = .returned (tokVal (tokAt s.data.toList k)) ∧ Below w.heap.size w w' := by
  by_cases h1 : upto isLe s.data.toList k = k + 1
  · exact wordAt_one s k w hk hs hd hl h1
  · exact wordAt_more s k w hL hk hs hd hl h1
set_option maxHeartbeats 1000000 in
theorem tokenAt_letter (s : ByteArray) (k : Nat) (w : World) (hL : Laid w) (hk : k < s.size) (hs : s.size ≤ 1000000) (hd : isDg (s.data.toList.getD k 0) = false) (hl : isLe (s.data.toList.getD k 0) = true) :
    Calls Tryz.prog 57 #[.string s, .int .i64 k] w fun e w' => e = .returned (tokVal (tokAt s.data.toList k)) ∧ Below w.heap.size w w' := by
  have HL1 := Lib.hid (hL.after (((Below.refl w.heap.size w).alloc (Nat.le_refl _) (.cells #[.int .i64 0, .int .i64 0, .int .i64 0] 101))))
  have hd' : isDg s[k] = false := by rw [at_getD s k hk]; exact hd
  have hl' : isLe s[k] = true := by rw [at_getD s k hk]; exact hl
  have HD := Lib.hid hd
  have HL := Lib.hid hl
  clear hd hl
  obtain ⟨a, b, c, d, f, hv⟩ := tokVal_at (tokAt s.data.toList k)
  have HV := Lib.hid hv
  clear hv
  go_enter Tryz.func57, Tryz.ntmps57
  go_wp2_with fail
  refine (isDigit_any s[k] _).mono ?_
  rintro e w' ⟨rfl, rfl⟩
  go_wp2_with fail
  refine (isLetter_any s[k] _).mono ?_
  rintro e w' ⟨rfl, rfl⟩
  go_wp2_with fail
  refine (wordAt_any s k _ HL1.out hk hs HD.out HL.out).mono ?_
  rintro e w1 ⟨rfl, hb⟩
  rw [HV.out]
  obtain ⟨hc, hf⟩ := bcell hb
  have HB := Lib.hid ((Blk.new w 101 #[.int .i64 0, .int .i64 0, .int .i64 0]).below hb (by simp))
  go_wp2
  refine bodyPost_ret (v := tokVal (tokAt s.data.toList k)) ?_ rfl ⟨rfl, ?_⟩
  · rw [HV.out]; exact (results_tok Tryz.results57 _ _ w.heap.size _ _ _ (by rfl) (HB.out.set3 _ _ _)).trans (by rfl)
  · exact ((((Below.refl _ _).alloc (Nat.le_refl _) _).trans (hb.mono (by simp))).setCell (by simp) _ |>.setCell (by simp) _).setCell (by simp) _
set_option maxHeartbeats 1000000 in
theorem tokenAt_sign (s : ByteArray) (k : Nat) (w : World) (hL : Laid w) (hk : k < s.size) (hs : s.size ≤ 1000000) (hd : isDg (s.data.toList.getD k 0) = false) (hl : isLe (s.data.toList.getD k 0) = false) :
    Calls Tryz.prog 57 #[.string s, .int .i64 k] w fun e w' => e = .returned (tokVal (tokAt s.data.toList k)) ∧ Below w.heap.size w w' := by
  have HL1 := Lib.hid (hL.after (((Below.refl w.heap.size w).alloc (Nat.le_refl _) (.cells #[.int .i64 0, .int .i64 0, .int .i64 0] 101))))
  have hd' : isDg s[k] = false := by rw [at_getD s k hk]; exact hd
  have hl' : isLe s[k] = false := by rw [at_getD s k hk]; exact hl
  have HD := Lib.hid hd
  have HL := Lib.hid hl
  clear hd hl
  obtain ⟨a, b, c, d, f, hv⟩ := tokVal_at (tokAt s.data.toList k)
  have HV := Lib.hid hv
  clear hv
  go_enter Tryz.func57, Tryz.ntmps57
  go_wp2_with fail
  refine (isDigit_any s[k] _).mono ?_
  rintro e w' ⟨rfl, rfl⟩
  go_wp2_with fail
  refine (isLetter_any s[k] _).mono ?_
  rintro e w' ⟨rfl, rfl⟩
  go_wp2_with fail
  refine (signAt_any s k _ HL1.out hk hs HD.out HL.out).mono ?_
  rintro e w1 ⟨rfl, hb⟩
  rw [HV.out]
  obtain ⟨hc, hf⟩ := bcell hb
  have HB := Lib.hid ((Blk.new w 101 #[.int .i64 0, .int .i64 0, .int .i64 0]).below hb (by simp))
  go_wp2
  refine bodyPost_ret (v := tokVal (tokAt s.data.toList k)) ?_ rfl ⟨rfl, ?_⟩
  · rw [HV.out]; exact (results_tok Tryz.results57 _ _ w.heap.size _ _ _ (by rfl) (HB.out.set3 _ _ _)).trans (by rfl)
  · exact ((((Below.refl _ _).alloc (Nat.le_refl _) _).trans (hb.mono (by simp))).setCell (by simp) _ |>.setCell (by simp) _).setCell (by simp) _
theorem tokenAt_any (s : ByteArray) (k : Nat) (w : World) (hL : Laid w) (hk : k < s.size) (hs : s.size ≤ 1000000) :
    Calls Tryz.prog 57 #[.string s, .int .i64 k] w fun e w' => e = .returned (tokVal (tokAt s.data.toList k)) ∧ Below w.heap.size w w' := by
  cases hd : isDg (s.data.toList.getD k 0) with
  | true => exact tokenAt_digit s k w hL hk hs hd
  | false =>
    cases hl : isLe (s.data.toList.getD k 0) with
    | true => exact tokenAt_letter s k w hL hk hs hd hl
    | false => exact tokenAt_sign s k w hL hk hs hd hl
end Go.Proofs.YtmbmijhfoncncaaGreatDoor
