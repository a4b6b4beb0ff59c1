/- The contracts of parse.takes and May, and of the document's Takes and May. -/
import Derived.Test.YtmbmijhfoncncaaGreatDoorTpure
import Derived.Test.YtmbmijhfoncncaaGreatDoorPgen
import Derived.RegionTactic
namespace Go.Proofs.YtmbmijhfoncncaaGreatDoor
open Go.ChangeShapes Go.WideShapes Go.ChangeAt Go.RowKit
set_option linter.unusedVariables false

/-- what takes tells: as many as it takes, and true; or false -/
def TakPost (t : Tk) (w : World) (e : Ending) (w' : World) : Prop :=
  Below w.heap.size w w' ∧ ∃ n : Int, e = .returned (.tuple #[.int .i64 n, .bool (decide (0 ≤ tak t))]) ∧ (0 ≤ tak t → n = tak t) ∧ 0 ≤ n ∧ n ≤ 2
theorem tak_num (n : Int) : tak (1, n, 0) = if 0 ≤ n then 0 else -1 := by unfold tak; simp only; by_cases h : 0 ≤ n <;> simp [h] <;> omega
theorem tak_var (n : Int) : tak (2, n, 0) = if 0 ≤ n ∧ n ≤ 25 then 0 else -1 := by
  unfold tak
  simp only
  by_cases h : 0 ≤ n ∧ n ≤ 25
  · rw [if_neg (by omega), if_pos (Or.inr ⟨trivial, by omega⟩), if_pos h]
  · rw [if_neg h]
    by_cases h1 : n < 0
    · rw [if_pos (by omega)]
    · rw [if_neg (by omega), if_neg (by omega), if_pos (by omega)]
theorem tak_at (k n a : Int) (h : a ≠ 0) : tak (k, n, a) = -1 := by unfold tak; simp only; rw [if_pos (.inl h)]
def fixTak (k : Int) : Int := if k = 15 ∨ k = 16 then 0 else if k = 14 ∨ k = 19 then 1 else if lvl k ≠ 0 then 2 else -1
theorem tak_fix (k n : Int) (h1 : k ≠ 1) (h2 : k ≠ 2) : tak (k, n, 0) = if n = 0 then fixTak k else -1 := by
  unfold tak fixTak
  simp only
  by_cases h : n = 0
  · rw [if_neg (by omega), if_neg (by omega), if_neg (by omega), if_pos h]
  · rw [if_neg h]
    by_cases h3 : n < 0
    · rw [if_pos (by omega)]
    · rw [if_neg (by omega), if_neg (by omega), if_pos (by omega)]
theorem tp_mk {t : Tk} {w w' : World} {n : Int} {b : Bool} (hb : Below w.heap.size w w') (h0 : 0 ≤ n) (h2 : n ≤ 2) (h : b = decide (0 ≤ tak t)) (hn : 0 ≤ tak t → n = tak t) : TakPost t w (.returned (.tuple #[.int .i64 n, .bool b])) w' :=
  ⟨hb, n, by rw [h], hn, h0, h2⟩
set_option maxHeartbeats 2000000 in
set_option maxRecDepth 100000 in
theorem takes_at (k n a : Int) (w : World) (h : a ≠ 0) : Calls Tryz.prog 59 #[.agg #[.int .i64 k, .int .i64 n, .int .i64 a]] w (TakPost (k, n, a) w) := by
  have ha : (a == 0) = false := by simpa using h
  have ha2 : (a != 0) = true := by simpa using h
  have HT := Lib.hid (tak_at k n a h)
  clear h
  go_enter Tryz.func59, Tryz.ntmps59
  go_wp2
  go_ret2
  exact tp_mk ((Below.refl _ _).alloc (Nat.le_refl _) _) (by omega) (by omega) (by rw [HT.out]; rfl) (by rw [HT.out]; omega)
set_option maxHeartbeats 2000000 in
set_option maxRecDepth 100000 in
theorem takes_num (n : Int) (w : World) : Calls Tryz.prog 59 #[.agg #[.int .i64 1, .int .i64 n, .int .i64 0]] w (TakPost (1, n, 0) w) := by
  have HT := Lib.hid (tak_num n)
  by_cases h : 0 ≤ n
  · have hd : decide (0 ≤ n) = true := by simpa using h
    go_enter Tryz.func59, Tryz.ntmps59
    go_wp2
    go_quiet (fail)
    go_wp2
    go_ret2
    exact tp_mk (below_drewN ((Below.refl _ _).alloc (Nat.le_refl _) _) _) (by omega) (by omega) (by rw [HT.out, if_pos h]; rfl) (by rw [HT.out, if_pos h]; omega)
  · have hd : decide (0 ≤ n) = false := by simpa using h
    go_enter Tryz.func59, Tryz.ntmps59
    go_wp2
    go_quiet (fail)
    go_wp2
    go_ret2
    exact tp_mk (below_drewN ((Below.refl _ _).alloc (Nat.le_refl _) _) _) (by omega) (by omega) (by rw [HT.out, if_neg (by simpa using hd)]; rfl) (by rw [HT.out, if_neg (by simpa using hd)]; omega)
set_option maxHeartbeats 4000000 in
set_option maxRecDepth 100000 in
theorem takes_var (n : Int) (w : World) : Calls Tryz.prog 59 #[.agg #[.int .i64 2, .int .i64 n, .int .i64 0]] w (TakPost (2, n, 0) w) := by
  have HT := Lib.hid (tak_var n)
  by_cases h : 0 ≤ n
  · have hd : decide (0 ≤ n) = true := by simpa using h
    by_cases h2 : n ≤ 25
    · have hd2 : decide (n ≤ 25) = true := by simpa using h2
      go_enter Tryz.func59, Tryz.ntmps59
      go_wp2
      go_quiet (fail)
      go_wp2
      go_ret2
      exact tp_mk (below_drewN ((Below.refl _ _).alloc (Nat.le_refl _) _) _) (by omega) (by omega) (by rw [HT.out, if_pos ⟨h, h2⟩]; rfl) (by rw [HT.out, if_pos ⟨h, h2⟩]; omega)
    · have hd2 : decide (n ≤ 25) = false := by simpa using h2
      have HN := Lib.hid (show ¬ (0 ≤ n ∧ n ≤ 25) by omega)
      go_enter Tryz.func59, Tryz.ntmps59
      go_wp2
      go_quiet (fail)
      go_wp2
      go_ret2
      exact tp_mk (below_drewN ((Below.refl _ _).alloc (Nat.le_refl _) _) _) (by omega) (by omega) (by rw [HT.out, if_neg HN.out]; rfl) (by rw [HT.out, if_neg HN.out]; omega)
  · have hd : decide (0 ≤ n) = false := by simpa using h
    have HN := Lib.hid (show ¬ (0 ≤ n ∧ n ≤ 25) by omega)
    go_enter Tryz.func59, Tryz.ntmps59
    go_wp2
    go_quiet (fail)
    go_wp2
    go_ret2
    exact tp_mk (below_drewN ((Below.refl _ _).alloc (Nat.le_refl _) _) _) (by omega) (by omega) (by rw [HT.out, if_neg HN.out]; rfl) (by rw [HT.out, if_neg HN.out]; omega)
theorem fix_end {k n m : Int} (h : tak (k, n, 0) = if n = 0 then m else -1) (h0 : 0 ≤ m) : (n == 0) = decide (0 ≤ tak (k, n, 0)) ∧ (0 ≤ tak (k, n, 0) → m = tak (k, n, 0)) := by
  rw [h]
  by_cases hn : n = 0
  · rw [if_pos hn]; subst hn; simp [h0]
  · rw [if_neg hn]; simp [hn]
set_option maxHeartbeats 8000000 in
set_option maxRecDepth 100000 in
theorem takes_fix (k n : Int) (w : World) (h : (k = 15 ∨ k = 16) ∨ (k = 14 ∨ k = 19) ∨ k = 3 ∨ k = 4 ∨ k = 5 ∨ k = 6 ∨ k = 7 ∨ k = 8 ∨ k = 9 ∨ k = 10 ∨ k = 11 ∨ k = 12 ∨ k = 13) : Calls Tryz.prog 59 #[.agg #[.int .i64 k, .int .i64 n, .int .i64 0]] w (TakPost (k, n, 0) w) := by
  have hf : 0 ≤ fixTak k := by rcases h with (rfl | rfl) | (rfl | rfl) | rfl | rfl | rfl | rfl | rfl | rfl | rfl | rfl | rfl | rfl | rfl <;> decide
  have HT := Lib.hid (fix_end (tak_fix k n (by omega) (by omega)) hf)
  clear hf
  rcases h with (rfl | rfl) | (rfl | rfl) | rfl | rfl | rfl | rfl | rfl | rfl | rfl | rfl | rfl | rfl | rfl
  all_goals
    go_enter Tryz.func59, Tryz.ntmps59
    go_wp2
    go_quiet (fail)
    go_wp2
    go_ret2
    exact tp_mk (below_drewN ((Below.refl _ _).alloc (Nat.le_refl _) _) _) (by omega) (by omega) HT.out.1 HT.out.2
theorem fixTak_none {k : Int} (h : ¬ ((k = 15 ∨ k = 16) ∨ (k = 14 ∨ k = 19) ∨ k = 3 ∨ k = 4 ∨ k = 5 ∨ k = 6 ∨ k = 7 ∨ k = 8 ∨ k = 9 ∨ k = 10 ∨ k = 11 ∨ k = 12 ∨ k = 13)) : fixTak k = -1 := by
  have h0 : lvl k = 0 := by
    unfold lvl
    rw [if_neg (by omega), if_neg (by omega), if_neg (by omega), if_neg (by omega), if_neg (by omega)]
  unfold fixTak
  rw [if_neg (by omega), if_neg (by omega), if_neg (by omega)]
set_option maxHeartbeats 4000000 in
set_option maxRecDepth 100000 in
theorem takes_none (k n : Int) (w : World) (h1 : k ≠ 1) (h2 : k ≠ 2) (h : ¬ ((k = 15 ∨ k = 16) ∨ (k = 14 ∨ k = 19) ∨ k = 3 ∨ k = 4 ∨ k = 5 ∨ k = 6 ∨ k = 7 ∨ k = 8 ∨ k = 9 ∨ k = 10 ∨ k = 11 ∨ k = 12 ∨ k = 13)) : Calls Tryz.prog 59 #[.agg #[.int .i64 k, .int .i64 n, .int .i64 0]] w (TakPost (k, n, 0) w) := by
  have HT : Hid (tak (k, n, 0) = -1) := Lib.hid (by rw [tak_fix k n h1 h2, fixTak_none h]; split <;> rfl)
  have b1 : (k == 1) = false := by simpa using h1
  have b2 : (k == 2) = false := by simpa using h2
  have b15 : (k == 15) = false := by simp; omega
  have b16 : (k == 16) = false := by simp; omega
  have b14 : (k == 14) = false := by simp; omega
  have b19 : (k == 19) = false := by simp; omega
  have b3 : (k == 3) = false := by simp; omega
  have b4 : (k == 4) = false := by simp; omega
  have b5 : (k == 5) = false := by simp; omega
  have b6 : (k == 6) = false := by simp; omega
  have b7 : (k == 7) = false := by simp; omega
  have b8 : (k == 8) = false := by simp; omega
  have b9 : (k == 9) = false := by simp; omega
  have b10 : (k == 10) = false := by simp; omega
  have b11 : (k == 11) = false := by simp; omega
  have b12 : (k == 12) = false := by simp; omega
  have b13 : (k == 13) = false := by simp; omega
  clear h h1 h2
  go_enter Tryz.func59, Tryz.ntmps59
  go_wp2
  go_ret2
  exact tp_mk ((Below.refl _ _).alloc (Nat.le_refl _) _) (by omega) (by omega) (by rw [HT.out]; rfl) (by rw [HT.out]; omega)
theorem takes_any (t : Tk) (w : World) : Calls Tryz.prog 59 #[.agg #[.int .i64 t.1, .int .i64 t.2.1, .int .i64 t.2.2]] w (TakPost t w) := by
  obtain ⟨k, n, a⟩ := t
  by_cases ha : a = 0
  · subst ha
    by_cases h1 : k = 1
    · subst h1; exact takes_num n w
    · by_cases h2 : k = 2
      · subst h2; exact takes_var n w
      · by_cases h : (k = 15 ∨ k = 16) ∨ (k = 14 ∨ k = 19) ∨ k = 3 ∨ k = 4 ∨ k = 5 ∨ k = 6 ∨ k = 7 ∨ k = 8 ∨ k = 9 ∨ k = 10 ∨ k = 11 ∨ k = 12 ∨ k = 13
        · exact takes_fix k n w h
        · exact takes_none k n w h1 h2 h
  · exact takes_at k n a w ha
end Go.Proofs.YtmbmijhfoncncaaGreatDoor
