/- The walk of the law ExprTypes: true for any tokens and any number of variables. -/
import Derived.Test.YtoiflidlnajbdaaDoorEup
import Derived.Test.YtoiflidlnajbdaaDoorErel
import Derived.Test.YtoiflidlnajbdaaDoorEcode
namespace Go.Proofs.YtoiflidlnajbdaaDoor
open Go.ChangeShapes Go.WideShapes Go.ChangeAt Go.RowKit
set_option linter.unusedVariables false

set_option maxHeartbeats 2000000 in
set_option maxRecDepth 100000 in
theorem law1_far (A : Option Addr) (n cap : Nat) (vars : Int) (w : World) (hL : Laid w) (hs : n ≤ 9223372036854775807) (h : 300 < n) :
    Calls Tryd.prog 3 #[.slice A n cap, .int .i64 vars] w fun e w' => e = .returned (.bool true) ∧ Below w.heap.size w w' := by
  go_enter Tryd.func3, Tryd.ntmps3
  go_wp2_with fail
  refine (up_any _ hL).mono ?_
  rintro e w1 ⟨rfl, hb1⟩
  have HB1 := Lib.hid hb1
  clear hb1
  go_wp2
  go_ret
  exact ⟨rfl, HB1.out⟩
set_option maxHeartbeats 4000000 in
set_option maxRecDepth 100000 in
theorem law1_near (A : Option Addr) (cap : Nat) (ts : List Tk) (vars : Int) (w : World) (hL : Laid w) (h : ts.length ≤ 300) (hv : ToksAt w (.slice A ts.length cap) ts) (hn : ∀ t ∈ ts, t.2.1 ≤ 9223372036854775807) :
    Calls Tryd.prog 3 #[.slice A ts.length cap, .int .i64 vars] w fun e w' => e = .returned (.bool true) ∧ Below w.heap.size w w' := by
  have HT := Lib.hid (fun W hW => type_any (.slice A ts.length cap) ts vars W hW (by omega) hn)
  have HR := Lib.hid (fun W hW => rtype_any (.slice A ts.length cap) ts vars W hW (by omega) hn)
  have hA := ans_cases ⟨true, [], vars⟩ ts hn (fun x hx => by cases hx)
  generalize ans ⟨true, [], vars⟩ ts = a at *
  have HV := Lib.hid hv
  have HL := Lib.hid hL
  clear hv hn hL
  rcases hA with ⟨k, n, rfl, _⟩ | ⟨c, rfl, hc1, hc13⟩
  · have hkk : (k == k) = true := by simp
    go_enter Tryd.func3, Tryd.ntmps3
    go_wp2_with fail
    refine (up_any _ HL.out).mono ?_
    rintro e w1 ⟨rfl, hb1⟩
    have HB1 := Lib.hid hb1
    have HV1 := Lib.hid (HV.out.below hb1)
    clear hb1
    go_wp2_with fail
    refine (HT.out _ HV1.out).mono ?_
    rintro e w2 ⟨hb2, he⟩
    have he' : e = .returned (.tuple #[.int .i64 k, .nilIface]) := he
    subst he'
    have HB2 := Lib.hid (HB1.out.trans (hb2.mono HB1.out.size))
    have HV2 := Lib.hid (HV1.out.below hb2)
    clear hb2 he
    go_wp2_with fail
    refine (HR.out _ HV2.out).mono ?_
    rintro e w3 ⟨rfl, hb3⟩
    have HB3 := Lib.hid (HB2.out.trans (hb3.mono HB2.out.size))
    clear hb3
    simp only [Vl.kind, Vl.code]
    go_wp2_with fail
    refine (code_nil _).mono ?_
    rintro e w4 ⟨rfl, rfl⟩
    go_wp2
    go_ret
    exact ⟨rfl, HB3.out⟩
  · have hcc : ((c : Int) == (c : Int)) = true := by simp
    go_enter Tryd.func3, Tryd.ntmps3
    go_wp2_with fail
    refine (up_any _ HL.out).mono ?_
    rintro e w1 ⟨rfl, hb1⟩
    have HB1 := Lib.hid hb1
    have HV1 := Lib.hid (HV.out.below hb1)
    clear hb1
    go_wp2_with fail
    refine (HT.out _ HV1.out).mono ?_
    rintro e w2 ⟨hb2, he⟩
    have he' : e = .returned (.tuple #[.int .i64 0, .iface 40 (.int .i64 (c : Int))]) := he
    subst he'
    have HB2 := Lib.hid (HB1.out.trans (hb2.mono HB1.out.size))
    have HV2 := Lib.hid (HV1.out.below hb2)
    clear hb2 he
    go_wp2_with fail
    refine (HR.out _ HV2.out).mono ?_
    rintro e w3 ⟨rfl, hb3⟩
    have HB3 := Lib.hid (HB2.out.trans (hb3.mono HB2.out.size))
    clear hb3
    simp only [Vl.kind, Vl.code]
    go_wp2_with fail
    refine (code_any c _ hc1 hc13).mono ?_
    rintro e w4 ⟨rfl, rfl⟩
    go_wp2
    go_ret
    exact ⟨rfl, HB3.out⟩
end Go.Proofs.YtoiflidlnajbdaaDoor
