/- The contracts of parse.sign and join: a token's own text; with the texts of what it takes. -/
import Derived.Test.YtdeopkjpglkdhaaGreatDoorTmay
import Derived.Test.YtdeopkjpglkdhaaGreatDoorZtexts
namespace Go.Proofs.YtdeopkjpglkdhaaGreatDoor
open Go.ChangeShapes Go.WideShapes Go.ChangeAt Go.RowKit
set_option linter.unusedVariables false

/-- one token in a block of its own -/
theorem toks_one (w : World) (g : Nat) (t : Tk) (ty : TypeId) (h : Blk w g ty #[.int .i64 t.1, .int .i64 t.2.1, .int .i64 t.2.2]) : ToksAt w (.slice (some ⟨g, 0, none⟩) 1 1) [t] := by
  refine ⟨_, 1, rfl, by simp, fun i u hu => ?_⟩
  obtain ⟨⟨c0, c1, c2⟩, _⟩ := h.facts3
  cases i with
  | zero =>
    simp at hu
    subst hu
    exact ⟨g, 0, rfl, h.lt, c0, c1, c2⟩
  | succ i => simp at hu
/-- lex.Text of one token that may be -/
theorem text_one (w : World) (g : Nat) (t : Tk) (ty : TypeId) (hL : Laid w) (h : Blk w g ty #[.int .i64 t.1, .int .i64 t.2.1, .int .i64 t.2.2]) (hm : mayB t = true) (hn : t.2.1 ≤ 9223372036854775807) :
    Calls Tryz.prog 53 #[.slice (some ⟨g, 0, none⟩) 1 1] w fun e w' => e = .returned (.tuple #[.string (bytes (textB t)), .nilIface]) ∧ Below w.heap.size w w' := by
  refine (text_any _ [t] w hL (toks_one w g t ty h) (fun u hu => by obtain rfl := List.mem_singleton.1 hu; exact hn) (by simp)).mono ?_
  rintro e w' ⟨hb, ⟨_, rfl⟩ | ⟨h1, _⟩⟩
  · rw [joinB_one]; exact ⟨rfl, hb⟩
  · exact absurd (fun u hu => by obtain rfl := List.mem_singleton.1 hu; exact hm) h1
theorem sgn_neg (n a : Int) : sgn (19, n, a) = textB (4, 0, 0) := rfl
theorem sgn_not (n a : Int) : sgn (14, n, a) = textB (14, n, a) ++ [32] := rfl
theorem sgn_and (n a : Int) : sgn (12, n, a) = [32] ++ textB (12, n, a) ++ [32] := rfl
theorem sgn_or (n a : Int) : sgn (13, n, a) = [32] ++ textB (13, n, a) ++ [32] := rfl
theorem sgn_else (k n a : Int) (h1 : k ≠ 19) (h2 : k ≠ 14) (h3 : k ≠ 12) (h4 : k ≠ 13) : sgn (k, n, a) = textB (k, n, a) := by
  unfold sgn
  rw [if_neg h1, if_neg h2, if_neg h3, if_neg h4]
/-- two blocks of one token each -/
def two (w : World) (t : Tk) : World := (w.alloc (.cells #[.int .i64 t.1, .int .i64 t.2.1, .int .i64 t.2.2] 40)).alloc (.cells #[.int .i64 t.1, .int .i64 t.2.1, .int .i64 t.2.2] 40)
theorem two_below (w : World) (t : Tk) : Below w.heap.size w (two w t) := ((Below.refl _ _).alloc (Nat.le_refl _) _).alloc (by simp) _
theorem two_text (w : World) (t : Tk) (hL : Laid w) (hm : mayB t = true) (hn : t.2.1 ≤ 9223372036854775807) : Calls Tryz.prog 53 #[.slice (some ⟨w.heap.size + 1, 0, none⟩) 1 1] (two w t) fun e w' => e = .returned (.tuple #[.string (bytes (textB t)), .nilIface]) ∧ Below w.heap.size w w' ∧ w'.cell? ⟨w.heap.size, 0, none⟩ = some (.int .i64 t.1) := by
  have h1 : Blk (two w t) (w.heap.size + 1) 40 #[.int .i64 t.1, .int .i64 t.2.1, .int .i64 t.2.2] := Blk.new_at _ _ _ _ (by simp)
  have h0 : Blk (two w t) w.heap.size 40 #[.int .i64 t.1, .int .i64 t.2.1, .int .i64 t.2.2] := (Blk.new w 40 _).alloc _
  refine (text_one (two w t) (w.heap.size + 1) t 40 (hL.after (two_below w t)) h1 hm hn).mono ?_
  rintro e w' ⟨rfl, hb⟩
  exact ⟨rfl, (two_below w t).trans (hb.mono (two_below w t).size), (h0.below hb h0.lt).cell 0⟩
set_option maxHeartbeats 2000000 in
set_option maxRecDepth 100000 in
theorem psign_neg (w : World) (hL : Laid w) : Calls Tryz.prog 38 #[.agg #[.int .i64 19, .int .i64 0, .int .i64 0]] w fun e w' => e = .returned (.tuple #[.string (bytes (sgn (19, 0, 0))), .nilIface]) ∧ Below w.heap.size w w' := by
  have H := Lib.hid (two_text w (4, 0, 0) hL (by decide) (by decide))
  clear hL
  go_enter Tryz.func38, Tryz.ntmps38
  go_wp2_with fail
  refine H.out.mono ?_
  rintro e w1 ⟨rfl, hb, c0⟩
  have HB := Lib.hid hb
  clear hb
  go_wp2_with fail
  go_ret2
  exact ⟨rfl, HB.out⟩
set_option maxHeartbeats 2000000 in
set_option maxRecDepth 100000 in
theorem psign_not (w : World) (hL : Laid w) : Calls Tryz.prog 38 #[.agg #[.int .i64 14, .int .i64 0, .int .i64 0]] w fun e w' => e = .returned (.tuple #[.string (bytes (sgn (14, 0, 0))), .nilIface]) ∧ Below w.heap.size w w' := by
  have H := Lib.hid (two_text w (14, 0, 0) hL (by decide) (by decide))
  have HX := Lib.hid (show bytes (textB (14, 0, 0)) ++ ⟨#[32]⟩ = bytes (sgn (14, 0, 0)) by rw [sgn_not, bytes_append]; rfl)
  have hx : (bytes (textB (14, 0, 0))).size ≤ 20 := by decide
  generalize bytes (textB (14, 0, 0)) = X at *
  clear hL
  go_enter Tryz.func38, Tryz.ntmps38
  go_wp2_with fail
  refine H.out.mono ?_
  rintro e w1 ⟨rfl, hb, c0⟩
  have HB := Lib.hid hb
  clear hb
  go_wp2_with fail
  go_ret2
  exact ⟨by rw [← HX.out]; rfl, HB.out⟩
set_option maxHeartbeats 2000000 in
set_option maxRecDepth 100000 in
theorem psign_mid (k : Int) (w : World) (hL : Laid w) (hk : k = 12 ∨ k = 13) : Calls Tryz.prog 38 #[.agg #[.int .i64 k, .int .i64 0, .int .i64 0]] w fun e w' => e = .returned (.tuple #[.string (bytes (sgn (k, 0, 0))), .nilIface]) ∧ Below w.heap.size w w' := by
  have hm : mayB (k, 0, 0) = true := by rcases hk with rfl | rfl <;> decide
  have hx : (bytes (textB (k, 0, 0))).size ≤ 20 := by rcases hk with rfl | rfl <;> decide
  have hX : ⟨#[32]⟩ ++ bytes (textB (k, 0, 0)) ++ ⟨#[32]⟩ = bytes (sgn (k, 0, 0)) := by
    rcases hk with rfl | rfl
    · rw [sgn_and, bytes_append, bytes_append]; rfl
    · rw [sgn_or, bytes_append, bytes_append]; rfl
  have H := Lib.hid (two_text w (k, 0, 0) hL hm (show (0 : Int) ≤ 9223372036854775807 by decide))
  have HX := Lib.hid hX
  generalize bytes (textB (k, 0, 0)) = X at *
  clear hL hm hX
  rcases hk with rfl | rfl
  all_goals
    go_enter Tryz.func38, Tryz.ntmps38
    go_wp2_with fail
    refine H.out.mono ?_
    rintro e w1 ⟨rfl, hb, c0⟩
    have HB := Lib.hid hb
    clear hb
    go_wp2_with fail
    go_ret2
    exact ⟨by rw [← HX.out]; rfl, HB.out⟩
set_option maxHeartbeats 2000000 in
set_option maxRecDepth 100000 in
theorem psign_else (k n a : Int) (w : World) (hL : Laid w) (h1 : k ≠ 19) (h2 : k ≠ 14) (h3 : k ≠ 12) (h4 : k ≠ 13) (hm : mayB (k, n, a) = true) (hn : n ≤ 9223372036854775807) : Calls Tryz.prog 38 #[.agg #[.int .i64 k, .int .i64 n, .int .i64 a]] w fun e w' => e = .returned (.tuple #[.string (bytes (sgn (k, n, a))), .nilIface]) ∧ Below w.heap.size w w' := by
  have H := Lib.hid (two_text w (k, n, a) hL hm hn)
  have HX := Lib.hid (sgn_else k n a h1 h2 h3 h4)
  have b1 : (k == 19) = false := by simpa using h1
  have b2 : (k == 14) = false := by simpa using h2
  have b3 : (k == 12) = false := by simpa using h3
  have b4 : (k == 13) = false := by simpa using h4
  clear hL hm hn h1 h2 h3 h4
  rw [HX.out]
  generalize textB (k, n, a) = X at *
  clear HX
  go_enter Tryz.func38, Tryz.ntmps38
  go_wp2_with fail
  refine H.out.mono ?_
  rintro e w1 ⟨rfl, hb, c0⟩
  have HB := Lib.hid hb
  clear hb
  go_wp2_with fail
  go_ret2
  exact ⟨rfl, HB.out⟩
theorem psign_any (t : Tk) (w : World) (hL : Laid w) (ht : 0 ≤ tak t) (hn : t.2.1 ≤ 9223372036854775807) : Calls Tryz.prog 38 #[.agg #[.int .i64 t.1, .int .i64 t.2.1, .int .i64 t.2.2]] w fun e w' => e = .returned (.tuple #[.string (bytes (sgn t)), .nilIface]) ∧ Below w.heap.size w w' := by
  obtain ⟨k, n, a⟩ := t
  obtain ⟨ha, hn0, hm⟩ := tak_may ht
  simp only at ha hn0 hm hn
  subst ha
  rcases hm with ⟨rfl, rfl⟩ | hm
  · exact psign_neg w hL
  · have h19 : k ≠ 19 := by rintro rfl; rw [mayB_out 19 n 0 (by omega)] at hm; cases hm
    by_cases h14 : k = 14
    · subst h14
      have : n = 0 := by rw [mayB_else 14 n 0 (by omega) rfl rfl] at hm; simpa using hm
      subst this
      exact psign_not w hL
    · by_cases h12 : k = 12 ∨ k = 13
      · have : n = 0 := by
          rw [mayB_else k n 0 (by omega) (by simp; omega) (by simp; omega)] at hm; simpa using hm
        subst this
        exact psign_mid k w hL h12
      · exact psign_else k n 0 w hL h19 h14 (by omega) (by omega) hm hn
end Go.Proofs.YtdeopkjpglkdhaaGreatDoor
