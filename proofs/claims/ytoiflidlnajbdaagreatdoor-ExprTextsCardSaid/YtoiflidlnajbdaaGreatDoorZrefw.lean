/- Contracts of the document's answers for words and signs, and that they are those of the plain scan. -/
import Derived.Test.YtoiflidlnajbdaaGreatDoorZgen
namespace Go.Proofs.YtoiflidlnajbdaaGreatDoor
open Go.ChangeShapes Go.WideShapes Go.ChangeAt Go.RowKit
set_option linter.unusedVariables false

set_option maxHeartbeats 1000000 in
theorem word_any (s : ByteArray) (w : World) :
    Calls Tryz.prog 37 #[.string s] w fun e w' => e = .returned (.int .i64 (wordK s.data.toList : Nat)) ∧ w = w' := by
  rw [← Lib.toList_data]
  go_enter Tryz.func37, Tryz.ntmps37
  go_wp2
  all_goals
    go_ret
    refine ⟨ret_int ?_, rfl⟩
    simp only [wordK, *, ↓reduceIte, Bool.false_eq_true]
    rfl
set_option maxHeartbeats 1000000 in
theorem sign_any (s : ByteArray) (w : World) (h0 : 0 < s.size) (hs : s.size ≤ 1000000) :
    Calls Tryz.prog 38 #[.string s] w fun e w' => e = .returned (.tuple #[.int .i64 ((signK s.data.toList).1 : Nat), .int .i64 ((signK s.data.toList).2 : Nat)]) ∧ w = w' := by
  have hz := Lib.size_eq s
  by_cases h1 : 1 < s.size
  · have hS : signK s.data.toList = signI true (s[1].toNat : Int) (s[0].toNat : Int) := by
      rw [signK, at_getD s 1 h1, at_getD s 0 h0, ← hz, decide_eq_true h1]
    rw [hS]
    clear hS hz
    go_enter Tryz.func38, Tryz.ntmps38
    go_wp2
    all_goals
      go_ret2
      refine ⟨ret_two ?_ ?_, rfl⟩ <;> simp [signI, *]
  · have hS : signK s.data.toList = signI false 0 (s[0].toNat : Int) := by
      rw [signK, at_getD s 0 h0, ← hz, decide_eq_false h1]; rfl
    rw [hS]
    clear hS hz
    go_enter Tryz.func38, Tryz.ntmps38
    go_wp2
    all_goals
      go_ret2
      refine ⟨ret_two ?_ ?_, rfl⟩ <;> simp [signI, *]
end Go.Proofs.YtoiflidlnajbdaaGreatDoor
