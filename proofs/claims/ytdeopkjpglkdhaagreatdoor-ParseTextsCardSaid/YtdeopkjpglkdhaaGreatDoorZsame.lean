/- Slices of tokens, wherever they lie; the contract of the document's question whether two are the same (spinetref02.Same), where they are. -/
import Derived.Test.YtdeopkjpglkdhaaGreatDoorZgen
namespace Go.Proofs.YtdeopkjpglkdhaaGreatDoor
open Go.ChangeShapes Go.WideShapes Go.ChangeAt Go.RowKit
set_option linter.unusedVariables false

set_option maxHeartbeats 1000000 in
theorem same_yes (v v' : Value) (ts : List Tk) (w : World) (hv : ToksAt w v ts) (hv' : ToksAt w v' ts) (hl : ts.length ≤ 1000000) :
    Calls Tryz.prog 9 #[v, v'] w fun e w' => e = .returned (.bool true) ∧ ∃ n, w' = w.drewN n := by
  obtain ⟨A, cap, rfl, hc, hi⟩ := hv
  obtain ⟨A', cap', rfl, hc', hi'⟩ := hv'
  have HI := Lib.hid hi
  have HI' := Lib.hid hi'
  clear hi hi'
  go_enter Tryz.func9, Tryz.ntmps9
  go_wp2
  go_loopw [5] (fun i wr => ∃ k n : Nat, k ≤ ts.length ∧ i = .int .i64 (k : Int) ∧ wr = w.drewN n) (fun i _ => ts.length - (intOf i).toNat)
  case atStart => exact ⟨0, 0, Nat.zero_le _, rfl, rfl⟩
  case round =>
    obtain ⟨k, n, hk, rfl, rfl⟩ := hrel
    by_cases hlt : k < ts.length
    · obtain ⟨b, o, rfl, hb, c0, c1, c2⟩ := HI.out k ts[k] (List.getElem?_eq_getElem hlt)
      obtain ⟨b', o', rfl, hb', c0', c1', c2'⟩ := HI'.out k ts[k] (List.getElem?_eq_getElem hlt)
      generalize ts[k] = t at *
      go_wp2
      go_quiet (fail)
      go_wp2
      go_roundw
      case rel => exact ⟨k + 1, _, by omega, by go_num, rfl⟩
      case measure => simp [intOf]; omega
    · go_wp2
      go_ret
      exact ⟨rfl, _, rfl⟩
end Go.Proofs.YtdeopkjpglkdhaaGreatDoor
