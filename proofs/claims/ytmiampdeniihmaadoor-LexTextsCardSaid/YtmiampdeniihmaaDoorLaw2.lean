/- The walk of the law LexTexts: true for any tokens. -/
import Derived.Test.YtmiampdeniihmaaDoorUp
import Derived.Test.YtmiampdeniihmaaDoorRefx
import Derived.Test.YtmiampdeniihmaaDoorArg
namespace Go.Proofs.YtmiampdeniihmaaDoor
open Go.ChangeShapes Go.WideShapes Go.ChangeAt Go.RowKit
set_option linter.unusedVariables false

theorem eql_arg (w : World) : (binOp .eql 25 (.iface 28 (.int .i64 1)) (.iface 28 (.int .i64 1))).run Tryd.prog w = .ok (.bool true) w := by kernel_rfl

set_option maxHeartbeats 2000000 in
set_option maxRecDepth 100000 in
theorem law2_far (A : Option Addr) (n cap : Nat) (w : World) (hL : Laid w) (hs : n ≤ 9223372036854775807) (h : 500 < n) :
    Calls Tryd.prog 4 #[.slice A n cap] w fun e w' => e = .returned (.bool true) ∧ Below w.heap.size w w' := by
  go_enter Tryd.func4, Tryd.ntmps4
  go_wp2_with fail
  refine (up_any _ hL).mono ?_
  rintro e w1 ⟨rfl, hb1⟩
  have HB1 := Lib.hid hb1
  clear hb1
  go_wp2
  go_ret
  exact ⟨rfl, HB1.out⟩

set_option maxHeartbeats 2000000 in
set_option maxRecDepth 100000 in
theorem law2_near (A : Option Addr) (cap : Nat) (ts : List Tk) (w : World) (hL : Laid w) (h : ts.length ≤ 500) (hv : ToksAt w (.slice A ts.length cap) ts) (hn : ∀ t ∈ ts, t.2.1 ≤ 9223372036854775807) :
    Calls Tryd.prog 4 #[.slice A ts.length cap] w fun e w' => e = .returned (.bool true) ∧ Below w.heap.size w w' := by
  have f1 := eql_arg
  have HV := Lib.hid hv
  have HN := Lib.hid hn
  clear hv hn
  go_enter Tryd.func4, Tryd.ntmps4
  go_wp2_with fail
  refine (up_any _ hL).mono ?_
  rintro e w1 ⟨rfl, hb1⟩
  have HB1 := Lib.hid hb1
  have HL1 := Lib.hid (hL.after hb1)
  have HV1 := Lib.hid (HV.out.below hb1)
  clear hb1
  go_wp2_with fail
  refine (text_any _ ts _ HL1.out HV1.out HN.out (by omega)).mono ?_
  rintro e w2 ⟨hb2, hP⟩
  have HB2 := Lib.hid (HB1.out.trans (hb2.mono HB1.out.size))
  have HV2 := Lib.hid (HV1.out.below hb2)
  clear hb2
  rcases hP with ⟨hall, rfl⟩ | ⟨hnot, rfl⟩
  · have HA := Lib.hid hall
    clear hall
    go_wp2_with fail
    refine (rtext_any _ ts _ HV2.out HN.out (by omega)).mono ?_
    rintro e w3 ⟨hb3, hP⟩
    have HB3 := Lib.hid (HB2.out.trans (hb3.mono HB2.out.size))
    clear hb3
    rcases hP with ⟨_, rfl⟩ | ⟨hnot, _⟩
    · generalize bytes (joinB ts) = X
      have hxx : (X.toList == X.toList) = true := by simp
      go_wp2
      go_ret
      exact ⟨rfl, HB3.out⟩
    · exact absurd HA.out hnot
  · have HA := Lib.hid hnot
    clear hnot
    go_wp2_with fail
    refine (rtext_any _ ts _ HV2.out HN.out (by omega)).mono ?_
    rintro e w3 ⟨hb3, hP⟩
    have HB3 := Lib.hid (HB2.out.trans (hb3.mono HB2.out.size))
    clear hb3
    rcases hP with ⟨hall, _⟩ | ⟨_, rfl⟩
    · exact absurd hall HA.out
    · go_wp2
      go_ret
      exact ⟨rfl, HB3.out⟩

theorem law2 (A : Option Addr) (cap : Nat) (ts : List Tk) (w : World) (hL : Laid w) (hv : ToksAt w (.slice A ts.length cap) ts) (hn : ∀ t ∈ ts, Small t.2.1) (hs : Short ts.length) :
    Calls Tryd.prog 4 #[.slice A ts.length cap] w fun e w' => e = .returned (.bool true) ∧ Below w.heap.size w w' := by
  by_cases h : 500 < ts.length
  · exact law2_far A ts.length cap w hL hs h
  · exact law2_near A cap ts w hL (by omega) hv hn
end Go.Proofs.YtmiampdeniihmaaDoor
