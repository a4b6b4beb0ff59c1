/- The walk of the law LexTokens: true for any text. -/
import Derived.Test.YtmiampdeniihmaaDoorUp
import Derived.Test.YtmiampdeniihmaaDoorReft
namespace Go.Proofs.YtmiampdeniihmaaDoor
open Go.ChangeShapes Go.WideShapes Go.ChangeAt Go.RowKit
set_option linter.unusedVariables false

theorem eql_large (w : World) : (binOp .eql 25 (.iface 28 (.int .i64 3)) (.iface 28 (.int .i64 3))).run Tryd.prog w = .ok (.bool true) w := by kernel_rfl

theorem scanF_len (l : List UInt8) : ∀ (n k : Nat) (acc : List Tk), (scanF n l k acc).1.length ≤ acc.length + n
  | 0, _, acc => by rw [scanF]; exact Nat.le_refl _
  | n + 1, k, acc => by
    rw [scanF]
    by_cases hk : k < l.length
    · rw [if_pos hk]
      by_cases hs : isSp (l.getD k 0) = true
      · rw [if_pos hs]; have := scanF_len l n (k + 1) acc; omega
      · rw [if_neg hs]
        cases tokAt l k with
        | none => simp
        | some x =>
          obtain ⟨t, e⟩ := x
          have := scanF_len l n e (acc ++ [t])
          simp only [List.length_append, List.length_cons, List.length_nil] at this ⊢
          omega
    · rw [if_neg hk]; exact Nat.le_add_right _ _
theorem scan_len (l : List UInt8) : (scan l 0 []).1.length ≤ l.length := by
  have := scanF_len l (l.length - 0) 0 []
  unfold scan
  simpa using this

set_option maxHeartbeats 2000000 in
set_option maxRecDepth 100000 in
theorem law1_far (s : ByteArray) (w : World) (hL : Laid w) (hs : s.size ≤ 9223372036854775807) (h : 3000 < s.size) :
    Calls Tryd.prog 3 #[.string s] w fun e w' => e = .returned (.bool true) ∧ Below w.heap.size w w' := by
  go_enter Tryd.func3, Tryd.ntmps3
  go_wp2_with fail
  refine (up_any _ hL).mono ?_
  rintro e w1 ⟨rfl, hb1⟩
  have HB1 := Lib.hid hb1
  clear hb1
  go_wp2
  go_ret
  exact ⟨rfl, HB1.out⟩

set_option maxHeartbeats 2000000 in
set_option maxRecDepth 100000 in
theorem law1_large (s : ByteArray) (w : World) (hL : Laid w) (h : s.size ≤ 3000) (h2 : 200 < s.size) :
    Calls Tryd.prog 3 #[.string s] w fun e w' => e = .returned (.bool true) ∧ Below w.heap.size w w' := by
  have f1 := eql_large
  go_enter Tryd.func3, Tryd.ntmps3
  go_wp2_with fail
  refine (up_any _ hL).mono ?_
  rintro e w1 ⟨rfl, hb1⟩
  have HB1 := Lib.hid hb1
  clear hb1
  go_wp2_with fail
  refine (tokens_large s _ h2 (by omega)).mono ?_
  rintro e w2 ⟨rfl, rfl⟩
  go_wp2
  go_ret
  exact ⟨rfl, HB1.out⟩

set_option maxHeartbeats 2000000 in
set_option maxRecDepth 100000 in
theorem law1_near (s : ByteArray) (w : World) (hL : Laid w) (h : s.size ≤ 200) :
    Calls Tryd.prog 3 #[.string s] w fun e w' => e = .returned (.bool true) ∧ Below w.heap.size w w' := by
  go_enter Tryd.func3, Tryd.ntmps3
  go_wp2_with fail
  refine (up_any _ hL).mono ?_
  rintro e w1 ⟨rfl, hb1⟩
  have HB1 := Lib.hid hb1
  have HL1 := Lib.hid (hL.after hb1)
  clear hb1
  go_wp2_with fail
  refine (tokens_any s _ HL1.out h).mono ?_
  rintro e w2 ⟨hb2, hP⟩
  have HB2 := Lib.hid (HB1.out.trans (hb2.mono HB1.out.size))
  have HL2 := Lib.hid (HL1.out.after hb2)
  clear hb2
  have HQ := Lib.hid (fun W => rtokens_any s W h)
  have HN := Lib.hid (show (scan s.data.toList 0 []).1.length ≤ 1000000 by have := scan_len s.data.toList; rw [← Lib.size_eq] at this; omega)
  generalize scan s.data.toList 0 [] = R at hP HQ HN
  rcases hP with ⟨hR, v, rfl, hown⟩ | ⟨k, g, rfl, rfl, hg, hB⟩
  · have HT := Lib.hid (ToksAt.of_own hown)
    have HR := Lib.hid hR
    clear hown hR
    go_wp2_with fail
    refine (HQ.out _).mono ?_
    rintro e w3 ⟨hb3, hP⟩
    have HB3 := Lib.hid (HB2.out.trans (hb3.mono HB2.out.size))
    rcases hP with ⟨_, v', rfl, hown⟩ | ⟨k, hR, _⟩
    · have HT2 := Lib.hid (HT.out.below hb3)
      have HT3 := Lib.hid (ToksAt.of_own hown)
      clear hown hb3
      go_wp2_with fail
      refine (same_yes v v' R.1 _ HT2.out HT3.out HN.out).mono ?_
      rintro e w4 ⟨rfl, n4, rfl⟩
      go_wp2
      go_ret
      exact ⟨rfl, below_drewN HB3.out _⟩
    · have := HR.out
      rw [hR] at this
      simp at this
  · have HBl := Lib.hid hB
    clear hB
    go_wp2_with fail
    refine (HQ.out _).mono ?_
    rintro e w3 ⟨hb3, hP⟩
    have HB3 := Lib.hid (HB2.out.trans (hb3.mono HB2.out.size))
    have HL3 := Lib.hid (HL2.out.after hb3)
    have HBl3 := Lib.hid (HBl.out.below hb3 HBl.out.lt)
    clear hb3
    rcases hP with ⟨hR, _⟩ | ⟨k', hR, rfl⟩
    · simp at hR
    · obtain rfl : k' = k := by simp at hR; omega
      clear hR
      go_wp2_with fail
      refine (isSpot_yes g _ _ HL3.out HBl3.out).mono ?_
      rintro e w4 ⟨rfl, hb4⟩
      go_wp2
      go_ret
      exact ⟨rfl, HB3.out.trans (hb4.mono HB3.out.size)⟩

theorem law1 (s : ByteArray) (w : World) (hL : Laid w) (hs : s.size ≤ 9223372036854775807) :
    Calls Tryd.prog 3 #[.string s] w fun e w' => e = .returned (.bool true) ∧ Below w.heap.size w w' := by
  by_cases h : 3000 < s.size
  · exact law1_far s w hL hs h
  · by_cases h2 : 200 < s.size
    · exact law1_large s w hL (by omega) h2
    · exact law1_near s w hL (by omega)
end Go.Proofs.YtmiampdeniihmaaDoor
