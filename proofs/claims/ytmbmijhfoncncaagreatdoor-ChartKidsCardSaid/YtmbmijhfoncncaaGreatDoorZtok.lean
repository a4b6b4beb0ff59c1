/- Contracts of lex.numberAt, wordAt, signAt and tokenAt: the token that begins at a byte of a text. -/
import Derived.Test.YtmbmijhfoncncaaGreatDoorShelf
import Derived.Test.YtmbmijhfoncncaaGreatDoorZgen
import Derived.Test.YtmbmijhfoncncaaGreatDoorZscan
import Derived.Test.YtmbmijhfoncncaaGreatDoorZfix
namespace Go.Proofs.YtmbmijhfoncncaaGreatDoor
open Go.ChangeShapes Go.WideShapes Go.ChangeAt Go.RowKit
set_option linter.unusedVariables false

theorem neq_num_nil (p : Value) (w : World) : (binOp .neq 33 (.iface 130 p) .nilIface).run Tryz.prog w = .ok (.bool true) w := by kernel_rfl
/-- strconv.ParseInt at a piece of digits alone -/
theorem parse_ok (s : ByteArray) (a b : Nat) (w : World) (hb : b ≤ s.size) (hs : s.size ≤ 1000000) (hn : mid s.data.toList a b ≠ []) (hd : ∀ c ∈ mid s.data.toList a b, isDg c = true) (hv : val (mid s.data.toList a b) ≤ 9223372036854775807) :
    Calls Tryz.prog 69 #[.string (s.extract a b), .int .i64 10, .int .i64 64] w fun e w' => e = .returned (.tuple #[.int .i64 (val (mid s.data.toList a b)), .nilIface]) ∧ Below w.heap.size w w' := by
  have h : Lib.parseIntB 64 (s.extract a b).data.toList = .ok (val (mid s.data.toList a b) : Int) := by
    rw [Lib.extract_data]; exact (parseInt_digits _ hn hd).trans (if_pos hv)
  refine (Tryz.strconv_ParseInt_10_at64_ok (s.extract a b) (by rw [extract_size s a b hb]; omega) _ h w).mono ?_
  rintro e w' ⟨rfl, hw⟩
  refine ⟨rfl, ?_⟩
  rcases hw with rfl | ⟨t, rfl⟩
  · exact Below.refl _ _
  · exact Lib.bytesWorld_below _ _ _
theorem parse_big (s : ByteArray) (a b : Nat) (w : World) (hL : Laid w) (hb : b ≤ s.size) (hs : s.size ≤ 1000000) (hn : mid s.data.toList a b ≠ []) (hd : ∀ c ∈ mid s.data.toList a b, isDg c = true) (hv : ¬ val (mid s.data.toList a b) ≤ 9223372036854775807) :
    Calls Tryz.prog 69 #[.string (s.extract a b), .int .i64 10, .int .i64 64] w fun e w' => ∃ n p, e = .returned (.tuple #[.int .i64 n, .iface 130 p]) ∧ Below w.heap.size w w' := by
  have h : Lib.parseIntB 64 (s.extract a b).data.toList = .range := by
    rw [Lib.extract_data]; exact (parseInt_digits _ hn hd).trans (if_neg hv)
  obtain ⟨tp, p, hr⟩ := hL.2.2.2.1
  refine (Tryz.strconv_ParseInt_10_at64_range_var (s.extract a b) (by rw [extract_size s a b hb]; omega) h tp p w hr).mono ?_
  rintro e w' ⟨N, rfl, _, _, hb⟩
  exact ⟨_, _, rfl, hb⟩
set_option maxHeartbeats 1000000 in
theorem numberAt_any (s : ByteArray) (k : Nat) (w : World) (hL : Laid w) (hk : k < s.size) (hs : s.size ≤ 1000000) (hd : isDg (s.data.toList.getD k 0) = true) :
    Calls Tryz.prog 63 #[.string s, .int .i64 k] w fun e w' => e = .returned (tokVal (tokAt s.data.toList k)) ∧ Below w.heap.size w w' := by
  have hl : k < s.data.toList.length := by rw [← Lib.size_eq]; exact hk
  have hT : Hid (tokAt s.data.toList k = if val (mid s.data.toList k (upto isDg s.data.toList k)) ≤ 9223372036854775807 then some ((1, (val (mid s.data.toList k (upto isDg s.data.toList k)) : Int), (k : Int)), upto isDg s.data.toList k) else none) := by
    refine Lib.hid ?_; unfold tokAt; rw [if_pos hd]
  have hu : upto isDg s.data.toList k ≤ s.size := by have := upto_le isDg s.data.toList k (by omega); rw [← Lib.size_eq] at this; exact this
  have hu2 := le_upto isDg s.data.toList k
  have hne := mid_ne s.data.toList isDg k hl hd
  have hdg := Lib.hid (digits_of_mid s.data.toList k)
  clear hd
  have n1 := neq_nil_nil
  have n2 := neq_num_nil
  generalize hE : upto isDg s.data.toList k = E at *
  have HE := Lib.hid hE
  clear hE
  by_cases hv : val (mid s.data.toList k E) ≤ 9223372036854775807
  · go_enter Tryz.func63, Tryz.ntmps63
    go_wp2_with fail
    refine (endOf_digit s k _ (by omega) hs).mono ?_
    rintro e w' ⟨rfl, rfl⟩
    rw [HE.out]
    go_wp2_with fail
    refine (parse_ok s k E _ hu hs hne hdg.out hv).mono ?_
    rintro e w1 ⟨rfl, hb⟩
    obtain ⟨hc, hf⟩ := bcell hb
    have hB := (Blk.new w 101 #[.int .i64 0, .int .i64 0, .int .i64 0]).below hb (by simp)
    go_wp2
    refine bodyPost_ret (v := tokVal (tokAt s.data.toList k)) ?_ rfl ⟨rfl, ?_⟩
    · rw [hT.out, if_pos hv]; exact (results_tok Tryz.results63 _ _ w.heap.size _ _ _ (by rfl) (hB.set3 _ _ _)).trans (by rfl)
    · exact ((((Below.refl _ _).alloc (Nat.le_refl _) _).trans (hb.mono (by simp))).setCell (by simp) _ |>.setCell (by simp) _).setCell (by simp) _
  · have hL1 := hL.after (((Below.refl w.heap.size w).alloc (Nat.le_refl _) (.cells #[.int .i64 0, .int .i64 0, .int .i64 0] 101)))
    have HL1 := Lib.hid hL1
    clear hL1
    go_enter Tryz.func63, Tryz.ntmps63
    go_wp2_with fail
    refine (endOf_digit s k _ (by omega) hs).mono ?_
    rintro e w' ⟨rfl, rfl⟩
    rw [HE.out]
    go_wp2_with fail
    refine (parse_big s k E _ HL1.out hu hs hne hdg.out hv).mono ?_
    rintro e w1 ⟨nn, pp, rfl, hb⟩
    obtain ⟨hc, hf⟩ := bcell hb
    have hB := (Blk.new w 101 #[.int .i64 0, .int .i64 0, .int .i64 0]).below hb (by simp)
    go_wp2
    refine bodyPost_ret (v := tokVal (tokAt s.data.toList k)) ?_ rfl ⟨rfl, ?_⟩
    · rw [hT.out, if_neg hv]; exact (results_tok Tryz.results63 _ _ w.heap.size _ _ _ (by rfl) (hB.set3 _ _ _)).trans (by rfl)
    · exact ((((Below.refl _ _).alloc (Nat.le_refl _) _).trans (hb.mono (by simp))).setCell (by simp) _ |>.setCell (by simp) _).setCell (by simp) _
set_option maxHeartbeats 1000000 in
theorem wordAt_one (s : ByteArray) (k : Nat) (w : World) (hk : k < s.size) (hs : s.size ≤ 1000000) (hd : isDg (s.data.toList.getD k 0) = false) (hl : isLe (s.data.toList.getD k 0) = true) (h1 : upto isLe s.data.toList k = k + 1) :
    Calls Tryz.prog 65 #[.string s, .int .i64 k] w fun e w' => e = .returned (tokVal (tokAt s.data.toList k)) ∧ Below w.heap.size w w' := by
  have hT : Hid (tokAt s.data.toList k = some ((2, ((s.data.toList.getD k 0).toNat : Int) - 97, (k : Int)), k + 1)) := by
    refine Lib.hid ?_; unfold tokAt; rw [if_neg (by rw [hd]; exact Bool.false_ne_true), if_pos hl, if_pos h1]
  have ha := at_getD s k hk
  rw [← ha] at hT hl
  simp only [isLe, Bool.and_eq_true, decide_eq_true_eq] at hl
  have b1 : 97 ≤ (s[k].toNat : Int) := by omega
  have b2 : (s[k].toNat : Int) ≤ 122 := by omega
  have HE := Lib.hid h1
  clear h1 hd ha hl
  go_enter Tryz.func65, Tryz.ntmps65
  go_wp2_with fail
  refine (endOf_letter s k _ (by omega) hs).mono ?_
  rintro e w' ⟨rfl, rfl⟩
  rw [HE.out]
  go_wp2
  refine bodyPost_ret (v := tokVal (tokAt s.data.toList k)) ?_ rfl ⟨rfl, ?_⟩
  · rw [hT.out]; exact (results_tok Tryz.results65 _ _ w.heap.size _ _ _ (by rfl) (Blk.new w 101 _)).trans (by rfl)
  · exact (Below.refl _ _).alloc (Nat.le_refl _) _
set_option maxHeartbeats 1000000 in
theorem wordAt_more (s : ByteArray) (k : Nat) (w : World) (hL : Laid w) (hk : k < s.size) (hs : s.size ≤ 1000000) (hd : isDg (s.data.toList.getD k 0) = false) (hl : isLe (s.data.toList.getD k 0) = true) (h1 : ¬ upto isLe s.data.toList k = k + 1) :
    Calls Tryz.prog 65 #[.string s, .int .i64 k] w fun e w' => e = .returned (tokVal (tokAt s.data.toList k)) ∧ Below w.heap.size w w' := by
  have hT : Hid (tokAt s.data.toList k = fixTok s.data.toList k (upto isLe s.data.toList k)) := by
    refine Lib.hid ?_; unfold tokAt; rw [if_neg (by rw [hd]; exact Bool.false_ne_true), if_pos hl, if_neg h1]
  have hu : upto isLe s.data.toList k ≤ s.size := by have := upto_le isLe s.data.toList k (by rw [← Lib.size_eq]; omega); rw [← Lib.size_eq] at this; exact this
  have hu2 := le_upto isLe s.data.toList k
  have HL1 := Lib.hid (hL.after (((Below.refl w.heap.size w).alloc (Nat.le_refl _) (.cells #[.int .i64 0, .int .i64 0, .int .i64 0] 101))))
  generalize hE : upto isLe s.data.toList k = E at *
  have HE := Lib.hid hE
  have h2 : ((E : Int) == (k : Int) + 1) = false := by simp; omega
  clear h1 hd hl hE
  obtain ⟨a, b, c, d, f, hv⟩ := tokVal_at (fixTok s.data.toList k E)
  have HV := Lib.hid hv
  clear hv
  go_enter Tryz.func65, Tryz.ntmps65
  go_wp2_with fail
  refine (endOf_letter s k _ (by omega) hs).mono ?_
  rintro e w' ⟨rfl, rfl⟩
  rw [HE.out]
  go_wp2_with fail
  refine (fixedAt_any s k E _ HL1.out hu2 hu hs).mono ?_
  rintro e w1 ⟨rfl, hb⟩
  rw [HV.out]
  obtain ⟨hc, hf⟩ := bcell hb
  have hB := (Blk.new w 101 #[.int .i64 0, .int .i64 0, .int .i64 0]).below hb (by simp)
  have HB := Lib.hid hB
  clear hB
  go_wp2
  refine bodyPost_ret (v := tokVal (tokAt s.data.toList k)) ?_ rfl ⟨rfl, ?_⟩
  · rw [hT.out, HV.out]; exact (results_tok Tryz.results65 _ _ w.heap.size _ _ _ (by rfl) (HB.out.set3 _ _ _)).trans (by rfl)
  · exact ((((Below.refl _ _).alloc (Nat.le_refl _) _).trans (hb.mono (by simp))).setCell (by simp) _ |>.setCell (by simp) _).setCell (by simp) _
end Go.Proofs.YtmbmijhfoncncaaGreatDoor
