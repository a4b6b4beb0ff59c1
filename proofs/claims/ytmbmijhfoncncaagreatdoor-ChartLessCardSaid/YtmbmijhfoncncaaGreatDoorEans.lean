/- The contracts of expr.Type and expr.Eval at any tokens, of the document's Type and Eval. -/
import Derived.Test.YtmbmijhfoncncaaGreatDoorEtype
namespace Go.Proofs.YtmbmijhfoncncaaGreatDoor
open Go.ChangeShapes Go.WideShapes Go.ChangeAt Go.RowKit
set_option linter.unusedVariables false

theorem ans_not (m : Md) {ts : List Tk} (h : mayP ts = false) : ans m ts = .bad 2 := by unfold ans; rw [if_neg (by rw [h]; exact Bool.false_ne_true)]
set_option maxHeartbeats 1000000 in
theorem type_any (v : Value) (ts : List Tk) (vars : Int) (w : World) (hv : ToksAt w v ts) (hl : ts.length ≤ 1000) (hn : ∀ t ∈ ts, t.2.1 ≤ 9223372036854775807) : Calls Tryz.prog 45 #[v, .int .i64 vars] w (TyPost (ans ⟨true, [], vars⟩ ts) w) := by
  cases hm : mayP ts with
  | true => exact type_may v ts vars w hv hn hm
  | false =>
    have HM := Lib.hid (may_any v ts w hv (by omega))
    have HMP := Lib.hid hm
    have HA := Lib.hid (ans_not ⟨true, [], vars⟩ hm)
    obtain ⟨A, cap, rfl, hc, hel⟩ := hv
    clear hel hm
    go_enter Tryz.func45, Tryz.ntmps45
    go_wp2_with fail
    refine HM.out.mono ?_
    rintro e w0 ⟨rfl, hb0⟩
    rw [HMP.out]
    have HB0 := Lib.hid hb0
    clear hb0
    go_wp2_with fail
    go_ret2
    rw [HA.out]
    exact ⟨HB0.out, rfl⟩
end Go.Proofs.YtmbmijhfoncncaaGreatDoor
