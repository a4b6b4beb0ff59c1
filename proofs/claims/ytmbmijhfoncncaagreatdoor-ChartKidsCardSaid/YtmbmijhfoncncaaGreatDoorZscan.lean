/- Contracts of lex's small functions: the classes of bytes, and where the bytes of a class end. -/
import Derived.Test.YtmbmijhfoncncaaGreatDoorZgen
namespace Go.Proofs.YtmbmijhfoncncaaGreatDoor
open Go.ChangeShapes Go.WideShapes Go.ChangeAt Go.RowKit
set_option linter.unusedVariables false

theorem isSpace_any (c : UInt8) (w : World) :
    Calls Tryz.prog 56 #[.int .u8 (c.toNat : Int)] w fun e w' => e = .returned (.bool (isSp c)) ∧ w = w' := by
  go_enter Tryz.func56, Tryz.ntmps56
  go_wp2
  go_ret
  refine ⟨ret_bool ?_, rfl⟩
  unfold isSp; rw [Bool.eq_iff_iff]; simp; omega
theorem isDigit_any (c : UInt8) (w : World) :
    Calls Tryz.prog 62 #[.int .u8 (c.toNat : Int)] w fun e w' => e = .returned (.bool (isDg c)) ∧ w = w' := by
  go_enter Tryz.func62, Tryz.ntmps62
  go_wp2
  all_goals
    go_ret
    refine ⟨ret_bool ?_, rfl⟩
    unfold isDg; rw [Bool.eq_iff_iff]; simp; omega
theorem isLetter_any (c : UInt8) (w : World) :
    Calls Tryz.prog 64 #[.int .u8 (c.toNat : Int)] w fun e w' => e = .returned (.bool (isLe c)) ∧ w = w' := by
  go_enter Tryz.func64, Tryz.ntmps64
  go_wp2
  all_goals
    go_ret
    refine ⟨ret_bool ?_, rfl⟩
    unfold isLe; rw [Bool.eq_iff_iff]; simp; omega
set_option maxHeartbeats 1000000 in
theorem endOf_space (s : ByteArray) (k0 : Nat) (w : World) (hk0 : k0 ≤ s.size) (hs : s.size ≤ 1000000) :
    Calls Tryz.prog 55 #[.string s, .int .i64 k0, .func (.func 56) #[] #[]] w fun e w' => e = .returned (.int .i64 (upto isSp s.data.toList k0)) ∧ w = w' := by
  go_enter Tryz.func55, Tryz.ntmps55
  go_wp2
  go_loop [1] (fun i => ∃ k : Nat, k ≤ s.size ∧ i = .int .i64 k ∧ Hid (upto isSp s.data.toList k = upto isSp s.data.toList k0)) (fun i => s.size - (intOf i).toNat)
  case atStart => exact ⟨k0, hk0, rfl, Lib.hid rfl⟩
  case round =>
    obtain ⟨k, hk, rfl, hU⟩ := hrel
    by_cases hlt : k < s.size
    · have hl : k < s.data.toList.length := by rw [← Lib.size_eq]; exact hlt
      have ha := at_getD s k hlt
      cases hp : isSp (s.data.toList.getD k 0) with
      | true =>
        have H := Lib.hid (upto_yes isSp _ k hl hp)
        have hp' : isSp s[k] = true := by rw [ha]; exact hp
        clear hp ha
        go_wp2_with (go_at_call 56; refine (isSpace_any _ _).mono ?_; rintro e w' ⟨rfl, rfl⟩)
        go_round
        case rel => exact ⟨k + 1, by omega, by go_num, Lib.hid (H.out.symm.trans hU.out)⟩
        case measure => simp [intOf]; omega
      | false =>
        have H := Lib.hid (upto_no isSp _ k hl hp)
        have hp' : isSp s[k] = false := by rw [ha]; exact hp
        clear hp ha
        go_wp2_with (go_at_call 56; refine (isSpace_any _ _).mono ?_; rintro e w' ⟨rfl, rfl⟩)
        go_ret
        exact ⟨ret_int (by rw [← hU.out, H.out]), rfl⟩
    · have H := Lib.hid (upto_end isSp s.data.toList k (by rw [← Lib.size_eq]; omega))
      go_wp2
      go_ret
      exact ⟨ret_int (by rw [← hU.out, H.out]), rfl⟩
set_option maxHeartbeats 1000000 in
theorem endOf_digit (s : ByteArray) (k0 : Nat) (w : World) (hk0 : k0 ≤ s.size) (hs : s.size ≤ 1000000) :
    Calls Tryz.prog 55 #[.string s, .int .i64 k0, .func (.func 62) #[] #[]] w fun e w' => e = .returned (.int .i64 (upto isDg s.data.toList k0)) ∧ w = w' := by
  go_enter Tryz.func55, Tryz.ntmps55
  go_wp2
  go_loop [1] (fun i => ∃ k : Nat, k ≤ s.size ∧ i = .int .i64 k ∧ Hid (upto isDg s.data.toList k = upto isDg s.data.toList k0)) (fun i => s.size - (intOf i).toNat)
  case atStart => exact ⟨k0, hk0, rfl, Lib.hid rfl⟩
  case round =>
    obtain ⟨k, hk, rfl, hU⟩ := hrel
    by_cases hlt : k < s.size
    · have hl : k < s.data.toList.length := by rw [← Lib.size_eq]; exact hlt
      have ha := at_getD s k hlt
      cases hp : isDg (s.data.toList.getD k 0) with
      | true =>
        have H := Lib.hid (upto_yes isDg _ k hl hp)
        have hp' : isDg s[k] = true := by rw [ha]; exact hp
        clear hp ha
        go_wp2_with (go_at_call 62; refine (isDigit_any _ _).mono ?_; rintro e w' ⟨rfl, rfl⟩)
        go_round
        case rel => exact ⟨k + 1, by omega, by go_num, Lib.hid (H.out.symm.trans hU.out)⟩
        case measure => simp [intOf]; omega
      | false =>
        have H := Lib.hid (upto_no isDg _ k hl hp)
        have hp' : isDg s[k] = false := by rw [ha]; exact hp
        clear hp ha
        go_wp2_with (go_at_call 62; refine (isDigit_any _ _).mono ?_; rintro e w' ⟨rfl, rfl⟩)
        go_ret
        exact ⟨ret_int (by rw [← hU.out, H.out]), rfl⟩
    · have H := Lib.hid (upto_end isDg s.data.toList k (by rw [← Lib.size_eq]; omega))
      go_wp2
      go_ret
      exact ⟨ret_int (by rw [← hU.out, H.out]), rfl⟩
set_option maxHeartbeats 1000000 in
theorem endOf_letter (s : ByteArray) (k0 : Nat) (w : World) (hk0 : k0 ≤ s.size) (hs : s.size ≤ 1000000) :
    Calls Tryz.prog 55 #[.string s, .int .i64 k0, .func (.func 64) #[] #[]] w fun e w' => e = .returned (.int .i64 (upto isLe s.data.toList k0)) ∧ w = w' := by
  go_enter Tryz.func55, Tryz.ntmps55
  go_wp2
  go_loop [1] (fun i => ∃ k : Nat, k ≤ s.size ∧ i = .int .i64 k ∧ Hid (upto isLe s.data.toList k = upto isLe s.data.toList k0)) (fun i => s.size - (intOf i).toNat)
  case atStart => exact ⟨k0, hk0, rfl, Lib.hid rfl⟩
  case round =>
    obtain ⟨k, hk, rfl, hU⟩ := hrel
    by_cases hlt : k < s.size
    · have hl : k < s.data.toList.length := by rw [← Lib.size_eq]; exact hlt
      have ha := at_getD s k hlt
      cases hp : isLe (s.data.toList.getD k 0) with
      | true =>
        have H := Lib.hid (upto_yes isLe _ k hl hp)
        have hp' : isLe s[k] = true := by rw [ha]; exact hp
        clear hp ha
        go_wp2_with (go_at_call 64; refine (isLetter_any _ _).mono ?_; rintro e w' ⟨rfl, rfl⟩)
        go_round
        case rel => exact ⟨k + 1, by omega, by go_num, Lib.hid (H.out.symm.trans hU.out)⟩
        case measure => simp [intOf]; omega
      | false =>
        have H := Lib.hid (upto_no isLe _ k hl hp)
        have hp' : isLe s[k] = false := by rw [ha]; exact hp
        clear hp ha
        go_wp2_with (go_at_call 64; refine (isLetter_any _ _).mono ?_; rintro e w' ⟨rfl, rfl⟩)
        go_ret
        exact ⟨ret_int (by rw [← hU.out, H.out]), rfl⟩
    · have H := Lib.hid (upto_end isLe s.data.toList k (by rw [← Lib.size_eq]; omega))
      go_wp2
      go_ret
      exact ⟨ret_int (by rw [← hU.out, H.out]), rfl⟩
end Go.Proofs.YtmbmijhfoncncaaGreatDoor
