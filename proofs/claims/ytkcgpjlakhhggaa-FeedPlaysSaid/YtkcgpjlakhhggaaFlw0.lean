/- FeedPlays where no feed is made, or too much is done. -/
import Derived.Test.YtkcgpjlakhhggaaFpg
import Derived.BigQuiet
namespace Go.Proofs.Ytkcgpjlakhhggaa
open Go.ChangeShapes Go.WideShapes Go.ChangeAt Go.RowKit
set_option linter.unusedVariables false

set_option maxHeartbeats 2000000 in
set_option maxRecDepth 100000 in
theorem plays_bad (room : Int) (v1 : Value) (w : World) (h : room < 1 ∨ 100 < room) : Calls Try.prog 3 #[.int .i64 room, v1] w fun e w' => e = .returned (.bool true) ∧ Below w.heap.size w w' := by
  have ee := eql_codes
  have HU := Lib.hid (up_any w)
  have HN := Lib.hid (fun W => new_bad room W h)
  by_cases h1 : room < 1
  · clear h
    go_enter Try.func3, Try.ntmps3
    go_wp2_with fail
    refine HU.out.mono ?_
    rintro e w1 ⟨rfl, hb1⟩
    have HB1 := Lib.hid hb1
    clear hb1
    go_wp2_with fail
    refine (HN.out w1).mono ?_
    rintro e w2 ⟨rfl, rfl⟩
    go_wp2_with fail
    go_ret
    exact ⟨rfl, HB1.out⟩
  · have h2 : 100 < room := by omega
    clear h
    go_enter Try.func3, Try.ntmps3
    go_wp2_with fail
    refine HU.out.mono ?_
    rintro e w1 ⟨rfl, hb1⟩
    have HB1 := Lib.hid hb1
    clear hb1
    go_wp2_with fail
    refine (HN.out w1).mono ?_
    rintro e w2 ⟨rfl, rfl⟩
    go_wp2_with fail
    go_ret
    exact ⟨rfl, HB1.out⟩
set_option maxHeartbeats 2000000 in
set_option maxRecDepth 100000 in
theorem plays_long (room : Nat) (A1 : Option Addr) (n1 c1 : Nat) (w : World) (h1 : 1 ≤ room) (h2 : room ≤ 100) (h : 200 < n1) : Calls Try.prog 3 #[.int .i64 (room : Int), .slice A1 n1 c1] w fun e w' => e = .returned (.bool true) ∧ Below w.heap.size w w' := by
  have en := neq_nil_nil
  have ee := eql_nil_nil
  have HU := Lib.hid (up_any w)
  have HN := Lib.hid (fun W => new_ok room W h1 h2)
  have a1 : ¬ (room : Int) < 1 := by omega
  have a2 : ¬ 100 < (room : Int) := by omega
  have haz : 200 < (n1 : Int) := by omega
  go_enter Try.func3, Try.ntmps3
  go_wp2_with fail
  refine HU.out.mono ?_
  rintro e w1 ⟨rfl, hb1⟩
  have HB1 := Lib.hid hb1
  clear hb1
  go_wp2_with fail
  refine (HN.out w1).mono ?_
  rintro e w2 ⟨rfl, hF, hb2⟩
  have HB2 := Lib.hid (HB1.out.trans (hb2.mono HB1.out.size))
  clear hF hb2
  go_wp2_with fail
  go_ret
  exact ⟨rfl, HB2.out⟩
end Go.Proofs.Ytkcgpjlakhhggaa
