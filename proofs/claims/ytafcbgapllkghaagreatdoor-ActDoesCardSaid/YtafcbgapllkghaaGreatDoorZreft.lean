/- Contracts of the document's answers for words and signs, and that they are those of the plain scan. -/
import Derived.Test.YtafcbgapllkghaaGreatDoorZgen
namespace Go.Proofs.YtafcbgapllkghaaGreatDoor
open Go.ChangeShapes Go.WideShapes Go.ChangeAt Go.RowKit
set_option linter.unusedVariables false

set_option maxHeartbeats 1000000 in
theorem word_any (s : ByteArray) (w : World) :
    Calls Tryz.prog 31 #[.string s] w fun e w' => e = .returned (.int .i64 (wordK s.data.toList : Nat)) ∧ w = w' := by
  rw [← Lib.toList_data]
  go_enter Tryz.func31, Tryz.ntmps31
  go_wp2
  all_goals
    go_ret
    refine ⟨ret_int ?_, rfl⟩
    simp only [wordK, *, ↓reduceIte, Bool.false_eq_true]
    rfl
set_option maxHeartbeats 1000000 in
theorem sign_any (s : ByteArray) (w : World) (h0 : 0 < s.size) (hs : s.size ≤ 1000000) :
    Calls Tryz.prog 32 #[.string s] w fun e w' => e = .returned (.tuple #[.int .i64 ((signK s.data.toList).1 : Nat), .int .i64 ((signK s.data.toList).2 : Nat)]) ∧ w = w' := by
  have hz := Lib.size_eq s
  by_cases h1 : 1 < s.size
  · have hS : signK s.data.toList = signI true (s[1].toNat : Int) (s[0].toNat : Int) := by
      rw [signK, at_getD s 1 h1, at_getD s 0 h0, ← hz, decide_eq_true h1]
    rw [hS]
    clear hS hz
    go_enter Tryz.func32, Tryz.ntmps32
    go_wp2
    all_goals
      go_ret2
      refine ⟨ret_two ?_ ?_, rfl⟩ <;> simp [signI, *]
  · have hS : signK s.data.toList = signI false 0 (s[0].toNat : Int) := by
      rw [signK, at_getD s 0 h0, ← hz, decide_eq_false h1]; rfl
    rw [hS]
    clear hS hz
    go_enter Tryz.func32, Tryz.ntmps32
    go_wp2
    all_goals
      go_ret2
      refine ⟨ret_two ?_ ?_, rfl⟩ <;> simp [signI, *]
end Go.Proofs.YtafcbgapllkghaaGreatDoor
/- The contract of the document's own answer for a text's tokens (spinetref02.Tokens): what the plain scan gives. -/
namespace Go.Proofs.YtafcbgapllkghaaGreatDoor
open Go.ChangeShapes Go.WideShapes Go.ChangeAt Go.RowKit
set_option linter.unusedVariables false

theorem word_at (s : ByteArray) (k j : Nat) (w : World) :
    Calls Tryz.prog 31 #[.string (s.extract k j)] w fun e w' => e = .returned (.int .i64 (wordK (mid s.data.toList k j) : Nat)) ∧ w = w' := by
  have := word_any (s.extract k j) w
  rwa [Lib.extract_data] at this
theorem sign_at (s : ByteArray) (k : Nat) (hk : k < s.size) (hs : s.size ≤ 1000000) (w : World) :
    Calls Tryz.prog 32 #[.string (s.extract k s.size)] w fun e w' => e = .returned (.tuple #[.int .i64 ((signK (s.data.toList.drop k)).1 : Nat), .int .i64 ((signK (s.data.toList.drop k)).2 : Nat)]) ∧ w = w' := by
  have h := extract_size s k s.size (Nat.le_refl _)
  have := sign_any (s.extract k s.size) w (by omega) (by omega)
  rwa [Lib.extract_to_end] at this
set_option maxHeartbeats 4000000 in
set_option maxRecDepth 100000 in
theorem rtokens_any (s : ByteArray) (w : World) (hs : s.size ≤ 200) :
    Calls Tryz.prog 21 #[.string s] w (RefPost (scan s.data.toList 0 []) w) := by
  obtain ⟨i0, hi, hz0, hz1, hz2⟩ := info_parts Tryz.info40
  have HI := Lib.hid hi
  have HZ0 := Lib.hid hz0
  have HZ1 := Lib.hid hz1
  have HZ2 := Lib.hid hz2
  clear hi hz0 hz1 hz2
  have HZ := Lib.hid (Lib.size_eq s)
  generalize hRR : scan s.data.toList 0 [] = R at *
  have HR := Lib.hid hRR
  clear hRR
  go_enter Tryz.func21, Tryz.ntmps21
  go_wp2
  go_loopw [4, 5] (fun v i wr => ∃ (k : Nat) (ts : List Tk), k ≤ s.size ∧ ts.length ≤ k ∧ i = .int .i64 (k : Int) ∧ Hid (scan s.data.toList k ts = R) ∧ Below w.heap.size w wr ∧ Hid (wr.ownsRow w.heap.size 68 3 v ts.length (tksCells ts))) (fun _ i _ => s.size - (intOf i).toNat)
  case atStart => exact ⟨0, [], Nat.zero_le _, by simp, rfl, HR, Below.refl _ _, Lib.hid (World.ownsRow_nil _ _ _ _)⟩
  case round =>
    obtain ⟨k, ts, hk, hts, rfl, hU, hb, hown⟩ := hrel
    obtain ⟨wo, rfl⟩ : ∃ wo : World, wo = wr := ⟨_, rfl⟩
    have Q3 := Lib.hid (show ts.length + 1 ≤ maxLen by unfold maxLen; omega)
    have Q4 := Lib.hid (show (ts.length + 1) * 24 ≤ 140737488355328 by omega)
    have Q5 := Lib.hid (show ∀ o : Obj, w.heap.size ≤ (wo.alloc o).heap.size from fun o => by simp; have := hb.size; omega)
    by_cases hlt : k < s.size
    · have hlt' : k < s.data.toList.length := by rw [← HZ.out]; exact hlt
      have ha := Lib.hid (at_getD s k hlt)
      by_cases hsp : s[k].toNat = 32
      · have HH := Lib.hid ((scan_sp s.data.toList k ts hlt' (by rw [← ha.out]; unfold isSp; exact decide_eq_true hsp)).symm.trans hU.out)
        have h1 : ((s[k].toNat : Int) == 32) = true := by simp; omega
        clear hsp
        go_wp2
        go_roundw
        case rel => exact ⟨k + 1, ts, by omega, by omega, by go_num, HH, hb, hown⟩
        case measure => simp [intOf]; omega
      · have hsp' := Lib.hid (show isSp (s.data.toList.getD k 0) = false by rw [← ha.out]; unfold isSp; exact decide_eq_false hsp)
        have h1 : ((s[k].toNat : Int) == 32) = false := by simp; omega
        clear hsp
        by_cases hdg : 48 ≤ s[k].toNat ∧ s[k].toNat ≤ 57
        · have hd' : isDg (s.data.toList.getD k 0) = true := by rw [← ha.out]; unfold isDg; simp; omega
          have HT := Lib.hid (tok_num s.data.toList k hd')
          generalize hE : upto isDg s.data.toList k = E at HT
          have b1 : 48 ≤ (s[k].toNat : Int) := by omega
          have b2 : (s[k].toNat : Int) ≤ 57 := by omega
          have HE := Lib.hid hE
          clear hdg hd' hE
          go_wp2
          go_loop [7, 8, 9] (fun t n b => ∃ (j m : Nat) (big : Bool), k ≤ j ∧ j ≤ s.size ∧ t = .int .i64 (j : Int) ∧ n = .int .u64 (m : Int) ∧ b = .bool big ∧ m ≤ 9223372036854775807 ∧ Hid (upto isDg s.data.toList j = E) ∧ Hid (big = decide (9223372036854775807 < val (mid s.data.toList k j))) ∧ Hid (big = false → m = val (mid s.data.toList k j))) (fun t _ _ => s.size - (intOf t).toNat)
          case atStart => exact ⟨k, 0, false, by omega, hk, rfl, rfl, rfl, by omega, HE, Lib.hid (by rw [mid_self]; decide), Lib.hid (fun _ => by rw [mid_self]; rfl)⟩
          case round =>
            obtain ⟨j, m, big, hkj, hj, rfl, rfl, rfl, hm, hV, hG, hM⟩ := hrel
            by_cases hin : ∃ h : j < s.size, 48 ≤ s[j].toNat ∧ s[j].toNat ≤ 57
            · obtain ⟨hjl, hc1, hc2⟩ := hin
              have hjl' : j < s.data.toList.length := by rw [← HZ.out]; exact hjl
              have HV := Lib.hid ((upto_yes isDg s.data.toList j hjl' (by rw [← at_getD s j hjl]; unfold isDg; simp; omega)).symm.trans hV.out)
              have HX := Lib.hid (show val (mid s.data.toList k (j + 1)) = 10 * val (mid s.data.toList k j) + (s[j].toNat - 48) by rw [mid_succ _ k j hkj hjl', val_snoc, ← at_getD s j hjl])
              have d1 : 48 ≤ (s[j].toNat : Int) := by omega
              have d2 : (s[j].toNat : Int) ≤ 57 := by omega
              cases big with
              | true =>
                have HB := Lib.hid (of_decide_eq_true hG.out.symm)
                clear hV hG hM
                go_wp2
                all_goals
                  go_round
                  case rel => exact ⟨j + 1, m, true, by omega, by omega, by go_num, rfl, rfl, hm, HV, Lib.hid (by have := HB.out; rw [HX.out]; symm; exact decide_eq_true (by omega)), Lib.hid (fun h => by cases h)⟩
                  case measure => simp [intOf]; omega
              | false =>
                have hM' := hM.out rfl
                by_cases ht : (9223372036854775807 - ((s[j].toNat : Int) - 48)) / 10 < (m : Int)
                · have HB := Lib.hid (show 9223372036854775807 < 10 * val (mid s.data.toList k j) + (s[j].toNat - 48) by omega)
                  clear hV hG hM hM'
                  go_wp2
                  go_round
                  case rel => exact ⟨j + 1, m, true, by omega, by omega, by go_num, rfl, rfl, hm, HV, Lib.hid (by have := HB.out; rw [HX.out]; symm; exact decide_eq_true (by omega)), Lib.hid (fun h => by cases h)⟩
                  case measure => simp [intOf]; omega
                · have hle : 10 * (m : Int) + ((s[j].toNat : Int) - 48) ≤ 9223372036854775807 := by omega
                  have HMM := Lib.hid hM'
                  clear hV hG hM hM'
                  go_wp2
                  go_round
                  case rel => exact ⟨j + 1, 10 * m + (s[j].toNat - 48), false, by omega, by omega, by go_num, by congr 1; omega, rfl, by omega, HV, Lib.hid (by have := HMM.out; rw [HX.out]; symm; exact decide_eq_false (by omega)), Lib.hid (fun _ => by rw [HX.out, HMM.out])⟩
                  case measure => simp [intOf]; omega
            · have hje : E = j := by
                rw [← hV.out]
                by_cases hjl : j < s.size
                · exact upto_no isDg s.data.toList j (by rw [← HZ.out]; exact hjl) (by rw [← at_getD s j hjl]; unfold isDg; have : ¬ (48 ≤ s[j].toNat ∧ s[j].toNat ≤ 57) := fun h => hin ⟨hjl, h⟩; simp; omega)
                · exact upto_end isDg s.data.toList j (by rw [← HZ.out]; omega)
              subst hje
              have hw : (∃ h : E < s.size, (s[E].toNat : Int) < 48) ∨ (∃ h : E < s.size, 57 < (s[E].toNat : Int)) ∨ (s.size : Int) ≤ E := by
                by_cases hjl : E < s.size
                · have : ¬ (48 ≤ s[E].toNat ∧ s[E].toNat ≤ 57) := fun h => hin ⟨hjl, h⟩
                  by_cases h97 : s[E].toNat < 48
                  · exact .inl ⟨hjl, by omega⟩
                  · exact .inr (.inl ⟨hjl, by omega⟩)
                · exact .inr (.inr (by omega))
              cases big with
              | true =>
                have HH := Lib.hid (hU.out.symm.trans (scan_bad _ k ts hlt' hsp'.out (HT.out.trans (if_neg (by have := of_decide_eq_true hG.out.symm; omega)))))
                clear hin hV hG hM
                rcases hw with ⟨hw1, hw⟩ | ⟨hw1, hw⟩ | hw
                all_goals
                  go_wp2
                  go_ret2
                  exact ⟨hb, .inr ⟨k, HH.out, rfl⟩⟩
              | false =>
                have hT1 := HT.out.trans (if_pos (by have := of_decide_eq_false hG.out.symm; omega))
                rw [← hM.out rfl] at hT1
                have HH := Lib.hid ((scan_tok _ k _ _ ts hlt' hsp'.out hT1).symm.trans hU.out)
                have hkE : k < E := (tokAt_gt hlt' hT1).1
                clear hin hV hG hM hT1
                rcases hw with ⟨hw1, hw⟩ | ⟨hw1, hw⟩ | hw
                all_goals
                  go_wp2_with (at_builtin; refine wpList_append_own_at _ rfl _ _ 52 rfl w.heap.size 68 i0 (.agg #[.int .i64 0, .int .i64 0, .int .i64 0]) 3 24 Tryz.underlying52 HI.out HZ0.out HZ1.out HZ2.out rfl (by decide) _ _ _ rfl (hown.out.alloc _) ⟨wo.heap.size, 0, none⟩ 1 1 (tkCells ((1 : Int), (m : Int), (k : Int))) rfl rfl (new_cells wo 68 _ _ rfl) (tk_one _) Q3.out Q4.out (Q5.out _) ?_; intro v' w2 hown' hgrow _ _; have HG := Lib.hid (below_app hb hown.out hgrow); have HO' := Lib.hid (own_snoc hown'); clear hown' hgrow)
                  go_roundw
                  case rel => exact ⟨E, _, hj, by simp; omega, rfl, HH, HG.out, HO'⟩
                  case measure => simp [intOf]; omega
        · by_cases hle : 97 ≤ s[k].toNat ∧ s[k].toNat ≤ 122
          · have hd' : isDg (s.data.toList.getD k 0) = false := by rw [← ha.out]; unfold isDg; simp; omega
            have hl' : isLe (s.data.toList.getD k 0) = true := by rw [← ha.out]; unfold isLe; simp; omega
            have HT := Lib.hid (tok_word s.data.toList k hlt' hd' hl')
            have HU1 := Lib.hid (upto_yes isLe s.data.toList k hlt' hl')
            generalize hE : upto isLe s.data.toList k = E at HT HU1
            have b1 : 97 ≤ (s[k].toNat : Int) := by omega
            have b2 : (s[k].toNat : Int) ≤ 122 := by omega
            have HE := Lib.hid hE
            rw [← ha.out] at HT
            clear hdg hle hd' hl' hE
            go_wp2
            go_loop [7] (fun i => ∃ j : Nat, k ≤ j ∧ j ≤ s.size ∧ i = .int .i64 (j : Int) ∧ Hid (upto isLe s.data.toList j = E)) (fun i => s.size - (intOf i).toNat)
            case atStart => exact ⟨k, by omega, hk, rfl, HE⟩
            case round =>
              obtain ⟨j, hkj, hj, rfl, hV⟩ := hrel
              by_cases hin : ∃ h : j < s.size, 97 ≤ s[j].toNat ∧ s[j].toNat ≤ 122
              · obtain ⟨hjl, hc1, hc2⟩ := hin
                have hjl' : j < s.data.toList.length := by rw [← HZ.out]; exact hjl
                have HV := Lib.hid ((upto_yes isLe s.data.toList j hjl' (by rw [← at_getD s j hjl]; unfold isLe; simp; omega)).symm.trans hV.out)
                have d1 : 97 ≤ (s[j].toNat : Int) := by omega
                have d2 : (s[j].toNat : Int) ≤ 122 := by omega
                clear hV hc1 hc2
                go_wp2
                go_round
                case rel => exact ⟨j + 1, by omega, by omega, by go_num, HV⟩
                case measure => simp [intOf]; omega
              · have hje : E = j := by
                  rw [← hV.out]
                  by_cases hjl : j < s.size
                  · exact upto_no isLe s.data.toList j (by rw [← HZ.out]; exact hjl) (by rw [← at_getD s j hjl]; unfold isLe; have : ¬ (97 ≤ s[j].toNat ∧ s[j].toNat ≤ 122) := fun h => hin ⟨hjl, h⟩; simp; omega)
                  · exact upto_end isLe s.data.toList j (by rw [← HZ.out]; omega)
                subst hje
                have hw : (∃ h : E < s.size, (s[E].toNat : Int) < 97) ∨ (∃ h : E < s.size, 122 < (s[E].toNat : Int)) ∨ (s.size : Int) ≤ E := by
                  by_cases hjl : E < s.size
                  · have : ¬ (97 ≤ s[E].toNat ∧ s[E].toNat ≤ 122) := fun h => hin ⟨hjl, h⟩
                    by_cases h97 : s[E].toNat < 97
                    · exact .inl ⟨hjl, by omega⟩
                    · exact .inr (.inl ⟨hjl, by omega⟩)
                  · exact .inr (.inr (by omega))
                clear hin hV
                have HW := Lib.hid (fun W => word_at s k E W)
                generalize wordK (mid s.data.toList k E) = K at HT HW
                by_cases h1 : E = k + 1
                · have HT1 := HT.out.trans (if_pos h1)
                  have HH := Lib.hid ((scan_tok _ k _ _ ts hlt' hsp'.out HT1).symm.trans hU.out)
                  rw [← h1] at HH
                  have e1 : ((E : Int) == (k : Int) + 1) = true := by simp; omega
                  have hkE : k < E := by omega
                  clear HT1 h1
                  rcases hw with ⟨hw1, hw⟩ | ⟨hw1, hw⟩ | hw
                  all_goals
                    go_wp2_with (first | (go_at_call 31; refine (HW.out _).mono ?_; rintro e w' ⟨rfl, rfl⟩) | (at_builtin; refine wpList_append_own_at _ rfl _ _ 52 rfl w.heap.size 68 i0 (.agg #[.int .i64 0, .int .i64 0, .int .i64 0]) 3 24 Tryz.underlying52 HI.out HZ0.out HZ1.out HZ2.out rfl (by decide) _ _ _ rfl (hown.out.alloc _) ⟨wo.heap.size, 0, none⟩ 1 1 (tkCells ((2 : Int), (s[k].toNat : Int) - 97, (k : Int))) rfl rfl (new_cells wo 68 _ _ rfl) (tk_one _) Q3.out Q4.out (Q5.out _) ?_; intro v' w2 hown' hgrow _ _; have HG := Lib.hid (below_app hb hown.out hgrow); have HO' := Lib.hid (own_snoc hown'); clear hown' hgrow))
                    go_roundw
                    case rel => exact ⟨E, _, hj, by simp; omega, rfl, HH, HG.out, HO'⟩
                    case measure => simp [intOf]; omega
                · have HT1 := Lib.hid (HT.out.trans (if_neg h1))
                  have e1 : ((E : Int) == (k : Int) + 1) = false := by simp; omega
                  by_cases h0 : K = 0
                  · have HH := Lib.hid (hU.out.symm.trans (scan_bad _ k ts hlt' hsp'.out (HT1.out.trans (if_pos h0))))
                    subst h0
                    clear h1
                    rcases hw with ⟨hw1, hw⟩ | ⟨hw1, hw⟩ | hw
                    all_goals
                      go_wp2_with (go_at_call 31; refine (HW.out _).mono ?_; rintro e w' ⟨rfl, rfl⟩)
                      go_ret2
                      exact ⟨hb, .inr ⟨k, HH.out, rfl⟩⟩
                  · have HH := Lib.hid ((scan_tok _ k _ _ ts hlt' hsp'.out (HT1.out.trans (if_neg h0))).symm.trans hU.out)
                    have e0 : ((K : Int) != 0) = true := by simp; omega
                    have hkE : k < E := (tokAt_gt hlt' (HT1.out.trans (if_neg h0))).1
                    clear h1 h0
                    rcases hw with ⟨hw1, hw⟩ | ⟨hw1, hw⟩ | hw
                    all_goals
                      go_wp2_with (first | (go_at_call 31; refine (HW.out _).mono ?_; rintro e w' ⟨rfl, rfl⟩) | (at_builtin; refine wpList_append_own_at _ rfl _ _ 52 rfl w.heap.size 68 i0 (.agg #[.int .i64 0, .int .i64 0, .int .i64 0]) 3 24 Tryz.underlying52 HI.out HZ0.out HZ1.out HZ2.out rfl (by decide) _ _ _ rfl (hown.out.alloc _) ⟨wo.heap.size, 0, none⟩ 1 1 (tkCells ((K : Int), 0, (k : Int))) rfl rfl (new_cells wo 68 _ _ rfl) (tk_one _) Q3.out Q4.out (Q5.out _) ?_; intro v' w2 hown' hgrow _ _; have HG := Lib.hid (below_app hb hown.out hgrow); have HO' := Lib.hid (own_snoc hown'); clear hown' hgrow))
                      go_roundw
                      case rel => exact ⟨E, _, hj, by simp; omega, rfl, HH, HG.out, HO'⟩
                      case measure => simp [intOf]; omega
          · have hd' : isDg (s.data.toList.getD k 0) = false := by rw [← ha.out]; unfold isDg; simp; omega
            have hl' : isLe (s.data.toList.getD k 0) = false := by rw [← ha.out]; unfold isLe; simp; omega
            have HT := Lib.hid (tok_sign s.data.toList k hlt' hd' hl')
            have hsz := extract_size s k s.size (Nat.le_refl _)
            have HS := Lib.hid (sign_at s k hlt (by omega))
            generalize signK (s.data.toList.drop k) = jn at HT HS
            obtain ⟨j, n⟩ := jn
            have hw : (s[k].toNat : Int) < 48 ∨ (57 < (s[k].toNat : Int) ∧ (s[k].toNat : Int) < 97) ∨ 122 < (s[k].toNat : Int) := by omega
            clear hdg hle hd' hl' hsz
            by_cases hn : n = 0
            · have HH := Lib.hid (hU.out.symm.trans (scan_bad _ k ts hlt' hsp'.out (HT.out.trans (if_pos hn))))
              subst hn
              rcases hw with hw | ⟨hw, hw2⟩ | hw
              all_goals
                go_wp2_with (go_at_call 32; refine (HS.out _).mono ?_; rintro e w' ⟨rfl, rfl⟩)
                go_ret2
                exact ⟨hb, .inr ⟨k, HH.out, rfl⟩⟩
            · have HH := Lib.hid ((scan_tok _ k _ _ ts hlt' hsp'.out (HT.out.trans (if_neg hn))).symm.trans hU.out)
              have hg := (tokAt_gt hlt' (HT.out.trans (if_neg hn))).2
              have hn0 : ((n : Int) == 0) = false := by simp; exact hn
              have hn1 : 1 ≤ n := by omega
              have hg2 : k + n ≤ s.size := by rw [HZ.out]; exact hg
              clear hn hg
              rcases hw with hw | ⟨hw, hw2⟩ | hw
              all_goals
                go_wp2_with (first | (go_at_call 32; refine (HS.out _).mono ?_; rintro e w' ⟨rfl, rfl⟩) | (at_builtin; refine wpList_append_own_at _ rfl _ _ 52 rfl w.heap.size 68 i0 (.agg #[.int .i64 0, .int .i64 0, .int .i64 0]) 3 24 Tryz.underlying52 HI.out HZ0.out HZ1.out HZ2.out rfl (by decide) _ _ _ rfl (hown.out.alloc _) ⟨wo.heap.size, 0, none⟩ 1 1 (tkCells ((j : Int), 0, (k : Int))) rfl rfl (new_cells wo 68 _ _ rfl) (tk_one _) Q3.out Q4.out (Q5.out _) ?_; intro v' w2 hown' hgrow _ _; have HG := Lib.hid (below_app hb hown.out hgrow); have HO' := Lib.hid (own_snoc hown'); clear hown' hgrow))
                go_roundw
                case rel => exact ⟨k + n, _, hg2, by simp; omega, by go_num, HH, HG.out, HO'⟩
                case measure => simp [intOf]; omega
    · have HH := Lib.hid (hU.out.symm.trans (scan_end _ k ts (by rw [← HZ.out]; omega)))
      clear hU
      go_wp2
      go_ret2
      refine ⟨hb, .inl ⟨by rw [HH.out], _, rfl, ?_⟩⟩
      rw [HH.out]
      exact hown.out
end Go.Proofs.YtafcbgapllkghaaGreatDoor
