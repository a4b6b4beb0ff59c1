/- The walk of the law ParsePrints: true for any tokens. -/
import Derived.Test.YtdeopkjpglkdhaaGreatDoorPup
import Derived.Test.YtdeopkjpglkdhaaGreatDoorTrtx3
import Derived.Test.YtdeopkjpglkdhaaGreatDoorZarg
namespace Go.Proofs.YtdeopkjpglkdhaaGreatDoor
open Go.ChangeShapes Go.WideShapes Go.ChangeAt Go.RowKit
set_option linter.unusedVariables false

set_option maxHeartbeats 2000000 in
set_option maxRecDepth 100000 in
theorem law2_far (A : Option Addr) (n cap : Nat) (w : World) (hL : Laid w) (hs : n ≤ 9223372036854775807) (h : 500 < n) :
    Calls Tryz.prog 4 #[.slice A n cap] w fun e w' => e = .returned (.bool true) ∧ Below w.heap.size w w' := by
  go_enter Tryz.func4, Tryz.ntmps4
  go_wp2_with fail
  refine (up_any _ hL).mono ?_
  rintro e w1 ⟨rfl, hb1⟩
  have HB1 := Lib.hid hb1
  clear hb1
  go_wp2
  go_ret
  exact ⟨rfl, HB1.out⟩
set_option maxHeartbeats 4000000 in
set_option maxRecDepth 100000 in
theorem law2_near (A : Option Addr) (cap : Nat) (ts : List Tk) (w : World) (hL : Laid w) (h : ts.length ≤ 500) (hv : ToksAt w (.slice A ts.length cap) ts) (hn : ∀ t ∈ ts, t.2.1 ≤ 9223372036854775807) :
    Calls Tryz.prog 4 #[.slice A ts.length cap] w fun e w' => e = .returned (.bool true) ∧ Below w.heap.size w w' := by
  have f1 := eql_arg
  have f2 := eql_large
  have f3 := eql_nil
  have HV := Lib.hid hv
  have HN := Lib.hid hn
  clear hv hn
  go_enter Tryz.func4, Tryz.ntmps4
  go_wp2_with fail
  refine (up_any _ hL).mono ?_
  rintro e w1 ⟨rfl, hb1⟩
  have HB1 := Lib.hid hb1
  have HL1 := Lib.hid (hL.after hb1)
  have HV1 := Lib.hid (HV.out.below hb1)
  clear hb1
  go_wp2_with fail
  refine (rmay_any _ ts _ HV1.out (by omega)).mono ?_
  rintro e w2 ⟨rfl, hb2⟩
  have HB2 := Lib.hid (HB1.out.trans (hb2.mono HB1.out.size))
  have HL2 := Lib.hid (HL1.out.after hb2)
  have HV2 := Lib.hid (HV1.out.below hb2)
  clear hb2
  go_wp2_with fail
  refine (ptext_any _ ts _ HL2.out HV2.out HN.out (by omega)).mono ?_
  rintro e w3 ⟨hb3, hP⟩
  have HB3 := Lib.hid (HB2.out.trans (hb3.mono HB2.out.size))
  have HV3 := Lib.hid (HV2.out.below hb3)
  clear hb3
  rcases hP with ⟨hm, rfl⟩ | ⟨hm, x, hx, hP⟩
  · have HM := Lib.hid hm
    rw [hm]
    clear hm
    go_wp2_with fail
    refine (may_any _ ts _ HV3.out (by omega)).mono ?_
    rintro e w4 ⟨rfl, hb4⟩
    rw [HM.out]
    have HB4 := Lib.hid (HB3.out.trans (hb4.mono HB3.out.size))
    clear hb4
    go_wp2
    go_ret
    exact ⟨rfl, HB4.out⟩
  · have HM := Lib.hid hm
    obtain ⟨hl, hV, _⟩ := mayP_valid hm
    have HVAL := Lib.hid hV
    have HX := Lib.hid hx
    have hpos : 1 ≤ ts.length := by
      rcases Nat.eq_zero_or_pos ts.length with h0 | h0
      · rw [h0] at hx; cases hx
      · exact h0
    rw [hm]
    clear hm hV hx
    rcases hP with ⟨hok, rfl⟩ | ⟨hok, rfl⟩
    all_goals
      have HOK := Lib.hid hok
      clear hok
      go_wp2_with fail
      refine (may_any _ ts _ HV3.out (by omega)).mono ?_
      rintro e w4 ⟨rfl, hb4⟩
      rw [HM.out]
      have HB4 := Lib.hid (HB3.out.trans (hb4.mono HB3.out.size))
      have HV4 := Lib.hid (HV3.out.below hb4)
      clear hb4
      go_wp2_with fail
      refine (rtext_all ts ts.length A cap (ts.length - 1) x [] _ _ (by omega) (by omega) hl (by rw [show ts.length - 1 + 1 = ts.length by omega]; exact HVAL.out) HV4.out HN.out (by rw [show ts.length - 1 + 1 = ts.length by omega]; exact HX.out) (by omega)).mono ?_
      rintro e w5 ⟨hb5, s, f, rfl, hs, _⟩
      rw [HOK.out]
      have HB5 := Lib.hid (HB4.out.trans (hb5.mono HB4.out.size))
      have HS := Lib.hid hs
      clear hb5 hs
    · obtain ⟨rfl, rfl⟩ := HS.out HOK.out
      generalize bytes x.s = X
      have hxx : (X.toList == X.toList) = true := by simp
      go_wp2
      go_ret
      exact ⟨rfl, HB5.out⟩
    · go_wp2
      go_ret
      exact ⟨rfl, HB5.out⟩
theorem law2 (A : Option Addr) (cap : Nat) (ts : List Tk) (w : World) (hL : Laid w) (hv : ToksAt w (.slice A ts.length cap) ts) (hn : ∀ t ∈ ts, Small t.2.1) (hs : Short ts.length) :
    Calls Tryz.prog 4 #[.slice A ts.length cap] w fun e w' => e = .returned (.bool true) ∧ Below w.heap.size w w' := by
  by_cases h : 500 < ts.length
  · exact law2_far A ts.length cap w hL hs h
  · exact law2_near A cap ts w hL (by omega) hv hn
end Go.Proofs.YtdeopkjpglkdhaaGreatDoor
