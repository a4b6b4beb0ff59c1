/- The contract of the document's Takes; the contracts of parse.May and of the document's May. -/
import Derived.Test.YtoiflidlnajbdaaGreatDoorTtak
namespace Go.Proofs.YtoiflidlnajbdaaGreatDoor
open Go.ChangeShapes Go.WideShapes Go.ChangeAt Go.RowKit
set_option linter.unusedVariables false

theorem tak_neg (k n : Int) (h : n < 0) : tak (k, n, 0) = -1 := by unfold tak; simp only; rw [if_pos (.inr h)]
set_option maxHeartbeats 4000000 in
set_option maxRecDepth 100000 in
theorem rtakes_low (k n a : Int) (w : World) (h : a ≠ 0 ∨ a = 0 ∧ n < 0) : Calls Tryz.prog 43 #[.agg #[.int .i64 k, .int .i64 n, .int .i64 a]] w fun e w' => e = .returned (.int .i64 (-1)) ∧ Below w.heap.size w w' := by
  rcases h with h | ⟨rfl, h⟩
  · have ha : (a == 0) = false := by simpa using h
    have ha2 : (a != 0) = true := by simpa using h
    clear h
    go_enter Tryz.func43, Tryz.ntmps43
    go_wp2_with fail
    go_ret
    exact ⟨rfl, (Below.refl _ _).alloc (Nat.le_refl _) _⟩
  · have hd : decide (n < 0) = true := by simpa using h
    go_enter Tryz.func43, Tryz.ntmps43
    go_wp2_with fail
    go_ret
    exact ⟨rfl, (Below.refl _ _).alloc (Nat.le_refl _) _⟩
set_option maxHeartbeats 4000000 in
set_option maxRecDepth 100000 in
theorem rtakes_num (n : Int) (w : World) (h : 0 ≤ n) : Calls Tryz.prog 43 #[.agg #[.int .i64 1, .int .i64 n, .int .i64 0]] w fun e w' => e = .returned (.int .i64 0) ∧ Below w.heap.size w w' := by
  have hd : decide (n < 0) = false := by simpa using h
  go_enter Tryz.func43, Tryz.ntmps43
  go_wp2_with fail
  go_ret
  exact ⟨rfl, (Below.refl _ _).alloc (Nat.le_refl _) _⟩
set_option maxHeartbeats 4000000 in
set_option maxRecDepth 100000 in
theorem rtakes_var (n : Int) (w : World) (h : 0 ≤ n) : Calls Tryz.prog 43 #[.agg #[.int .i64 2, .int .i64 n, .int .i64 0]] w fun e w' => e = .returned (.int .i64 (if n ≤ 25 then 0 else -1)) ∧ Below w.heap.size w w' := by
  have hd : decide (n < 0) = false := by simpa using h
  by_cases h2 : n < 26
  · have hd2 : decide (n < 26) = true := by simpa using h2
    rw [if_pos (by omega)]
    go_enter Tryz.func43, Tryz.ntmps43
    go_wp2_with fail
    go_ret
    exact ⟨rfl, (Below.refl _ _).alloc (Nat.le_refl _) _⟩
  · have hd2 : decide (n < 26) = false := by simpa using h2
    have n0 : (n == 0) = false := by simp; omega
    have n1 : (n != 0) = true := by simp; omega
    rw [if_neg (by omega)]
    go_enter Tryz.func43, Tryz.ntmps43
    go_wp2_with fail
    go_ret
    exact ⟨rfl, (Below.refl _ _).alloc (Nat.le_refl _) _⟩
set_option maxHeartbeats 4000000 in
set_option maxRecDepth 100000 in
theorem rtakes_more (k n : Int) (w : World) (h : 0 < n) (h1 : k ≠ 1) (h2 : k ≠ 2) : Calls Tryz.prog 43 #[.agg #[.int .i64 k, .int .i64 n, .int .i64 0]] w fun e w' => e = .returned (.int .i64 (-1)) ∧ Below w.heap.size w w' := by
  have hd : decide (n < 0) = false := by simp; omega
  have n0 : (n == 0) = false := by simp; omega
  have n1 : (n != 0) = true := by simp; omega
  have b1 : (k == 1) = false := by simpa using h1
  have b2 : (k == 2) = false := by simpa using h2
  clear h1 h2
  go_enter Tryz.func43, Tryz.ntmps43
  go_wp2_with fail
  go_ret
  exact ⟨rfl, (Below.refl _ _).alloc (Nat.le_refl _) _⟩
set_option maxHeartbeats 4000000 in
set_option maxRecDepth 100000 in
theorem rtakes_fix (k : Int) (w : World) (h1 : k ≠ 1) (h2 : k ≠ 2) : Calls Tryz.prog 43 #[.agg #[.int .i64 k, .int .i64 0, .int .i64 0]] w fun e w' => e = .returned (.int .i64 (fixTak k)) ∧ Below w.heap.size w w' := by
  have b1 : (k == 1) = false := by simpa using h1
  have b2 : (k == 2) = false := by simpa using h2
  by_cases c : k = 15 ∨ k = 16
  · have HF := Lib.hid (show fixTak k = 0 by unfold fixTak; rw [if_pos c])
    clear h1 h2
    rcases c with rfl | rfl
    all_goals
      go_enter Tryz.func43, Tryz.ntmps43
      go_wp2_with fail
      go_ret
      exact ⟨ret_int HF.out.symm, (Below.refl _ _).alloc (Nat.le_refl _) _⟩
  · have b15 : (k == 15) = false := by simp; omega
    have b16 : (k == 16) = false := by simp; omega
    by_cases d : k = 14 ∨ k = 19
    · have HF := Lib.hid (show fixTak k = 1 by unfold fixTak; rw [if_neg c, if_pos d])
      clear h1 h2 c
      rcases d with rfl | rfl
      all_goals
        go_enter Tryz.func43, Tryz.ntmps43
        go_wp2_with fail
        go_ret
        exact ⟨ret_int HF.out.symm, (Below.refl _ _).alloc (Nat.le_refl _) _⟩
    · have b14 : (k == 14) = false := by simp; omega
      have b19 : (k == 19) = false := by simp; omega
      by_cases l : lvl k = 0
      · have HF := Lib.hid (show fixTak k = -1 by unfold fixTak; rw [if_neg c, if_neg d, if_neg (by omega)])
        have HLV := Lib.hid l
        clear h1 h2 c d l
        go_enter Tryz.func43, Tryz.ntmps43
        go_wp2_with fail
        refine (level_any _ _).mono ?_
        rintro e w' ⟨rfl, rfl⟩
        rw [HLV.out]
        go_wp2_with fail
        go_ret
        exact ⟨ret_int HF.out.symm, (Below.refl _ _).alloc (Nat.le_refl _) _⟩
      · have HF := Lib.hid (show fixTak k = 2 by unfold fixTak; rw [if_neg c, if_neg d, if_pos l])
        have hp : 0 < lvl k := by omega
        generalize hg : lvl k = y at hp
        have HLV := Lib.hid hg
        have hd1 : decide (0 < y) = true := by simpa using hp
        have hd2 : decide ((0 : Int) < (y : Int)) = true := by simp; omega
        clear h1 h2 c d l hg
        go_enter Tryz.func43, Tryz.ntmps43
        go_wp2_with fail
        refine (level_any _ _).mono ?_
        rintro e w' ⟨rfl, rfl⟩
        rw [HLV.out]
        go_wp2_with fail
        go_ret
        exact ⟨ret_int HF.out.symm, (Below.refl _ _).alloc (Nat.le_refl _) _⟩
theorem rtakes_any (t : Tk) (w : World) : Calls Tryz.prog 43 #[.agg #[.int .i64 t.1, .int .i64 t.2.1, .int .i64 t.2.2]] w fun e w' => e = .returned (.int .i64 (tak t)) ∧ Below w.heap.size w w' := by
  obtain ⟨k, n, a⟩ := t
  by_cases ha : a = 0
  · subst ha
    by_cases hn : n < 0
    · rw [tak_neg k n hn]; exact rtakes_low k n 0 w (.inr ⟨rfl, hn⟩)
    · by_cases h1 : k = 1
      · subst h1; rw [tak_num, if_pos (by omega)]; exact rtakes_num n w (by omega)
      · by_cases h2 : k = 2
        · subst h2
          have := rtakes_var n w (by omega)
          rw [tak_var]
          by_cases h25 : n ≤ 25
          · rw [if_pos h25] at this; rw [if_pos ⟨by omega, h25⟩]; exact this
          · rw [if_neg h25] at this; rw [if_neg (by omega)]; exact this
        · rw [tak_fix k n h1 h2]
          by_cases h0 : n = 0
          · subst h0; rw [if_pos rfl]; exact rtakes_fix k w h1 h2
          · rw [if_neg h0]; exact rtakes_more k n w (by omega) h1 h2
  · rw [tak_at k n a ha]; exact rtakes_low k n a w (.inl ha)
end Go.Proofs.YtoiflidlnajbdaaGreatDoor
