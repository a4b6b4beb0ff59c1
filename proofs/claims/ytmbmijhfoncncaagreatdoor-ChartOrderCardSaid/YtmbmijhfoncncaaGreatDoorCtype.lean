/- The contract of chart's hasType: whether a text parses, and has that type. -/
import Derived.Test.YtmbmijhfoncncaaGreatDoorEof
import Derived.Test.YtmbmijhfoncncaaGreatDoorCgen
namespace Go.Proofs.YtmbmijhfoncncaaGreatDoor
open Go.ChangeShapes Go.WideShapes Go.ChangeAt Go.RowKit
set_option linter.unusedVariables false

/-- whether a text parses, and has that type -/
def hasTB (s : ByteArray) (vars want : Int) : Bool :=
  match parseAns s.data.toList with
  | .toks o => (match ans ⟨true, [], vars⟩ o with
    | .ok k _ => k == want
    | .bad _ => false)
  | _ => false
theorem eql_nil_nil (w : World) : (binOp .eql 33 .nilIface .nilIface).run Tryz.prog w = .ok (.bool true) w := by kernel_rfl
theorem eql_code_nil' (p : Value) (w : World) : (binOp .eql 33 (.iface 39 p) .nilIface).run Tryz.prog w = .ok (.bool false) w := by kernel_rfl
set_option maxHeartbeats 1000000 in
theorem hasType_any (s : ByteArray) (vars want : Int) (w : World) (hL : Laid w) (hs : s.size ≤ 1000000) :
    Calls Tryz.prog 31 #[.string s, .int .i64 vars, .int .i64 want] w fun e w' => e = .returned (.bool (hasTB s vars want)) ∧ Below w.heap.size w w' := by
  have HP := Lib.hid (parse_any s w hL hs)
  have HPT := Lib.hid (fun o => parse_toks (s := s.data.toList) (o := o))
  have hR : hasTB s vars want = hasTB s vars want := rfl
  conv at hR => rhs; unfold hasTB
  generalize hasTB s vars want = R at *
  generalize parseAns s.data.toList = a at *
  have hnn := neq_nil_nil
  have hnc := fun p W => neq_code_any p W
  have hns := fun p W => neq_spot_any p W
  have hen := eql_nil_nil
  have hec := fun p W => eql_code_nil' p W
  cases a with
  | toks o =>
    have HR := Lib.hid hR
    clear hR hL
    go_enter Tryz.func31, Tryz.ntmps31
    go_wp2_with fail
    refine HP.out.mono ?_
    rintro e w1 ⟨hb1, v, rfl, hown⟩
    obtain ⟨ho100, hsm, _⟩ := HPT.out o rfl
    have HT := Lib.hid (type_any v o vars w1 (ToksAt.of_own hown) (by omega) hsm)
    have HB1 := Lib.hid hb1
    clear hb1 hown hsm ho100
    go_wp2_with fail
    refine HT.out.mono ?_
    rintro e w2 ⟨hb2, he⟩
    have HB2 := Lib.hid (HB1.out.trans (hb2.mono HB1.out.size))
    generalize ans ⟨true, [], vars⟩ o = b at *
    clear hb2
    cases b with
    | ok k n =>
      have he' : e = .returned (.tuple #[.int .i64 k, .nilIface]) := he
      subst he'
      clear he
      go_wp2_with fail
      go_ret
      exact ⟨ret_bool (by rw [HR.out]), HB2.out⟩
    | bad c =>
      have he' : e = .returned (.tuple #[.int .i64 0, .iface 39 (.int .i64 c)]) := he
      subst he'
      clear he
      go_wp2_with fail
      go_ret
      exact ⟨ret_bool (by rw [HR.out]), HB2.out⟩
  | form k =>
    have HR := Lib.hid hR
    clear hR hL
    go_enter Tryz.func31, Tryz.ntmps31
    go_wp2_with fail
    refine HP.out.mono ?_
    rintro e w1 ⟨hb1, g, rfl, hg, hB⟩
    have HB1 := Lib.hid hb1
    clear hb1 hg hB
    go_wp2_with fail
    go_ret
    exact ⟨ret_bool (by rw [HR.out]), HB1.out⟩
  | large =>
    have HR := Lib.hid hR
    clear hR hL
    go_enter Tryz.func31, Tryz.ntmps31
    go_wp2_with fail
    refine HP.out.mono ?_
    rintro e w1 ⟨hb1, he⟩
    have he' : e = .returned (.tuple #[.slice none 0 0, .iface 39 (.int .i64 3)]) := he
    subst he'
    have HB1 := Lib.hid hb1
    clear hb1 he
    go_wp2_with fail
    go_ret
    exact ⟨ret_bool (by rw [HR.out]), HB1.out⟩
end Go.Proofs.YtmbmijhfoncncaaGreatDoor
