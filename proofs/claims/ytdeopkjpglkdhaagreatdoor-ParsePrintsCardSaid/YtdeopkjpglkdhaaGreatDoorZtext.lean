/- What a token's text is, said plainly; the contracts of lex.mayBe and textOf. -/
import Derived.Test.YtdeopkjpglkdhaaGreatDoorShelf
import Derived.Test.YtdeopkjpglkdhaaGreatDoorZgen
namespace Go.Proofs.YtdeopkjpglkdhaaGreatDoor
open Go.ChangeShapes Go.WideShapes Go.ChangeAt Go.RowKit
set_option linter.unusedVariables false

set_option maxHeartbeats 1000000 in
theorem mayBe_any (k n a : Int) (w : World) :
    Calls Tryz.prog 62 #[.agg #[.int .i64 k, .int .i64 n, .int .i64 a]] w fun e w' => e = .returned (.bool (mayB (k, n, a))) ∧ Below w.heap.size w w' := by
  by_cases ho : k < 1 ∨ 18 < k
  · rw [mayB_out k n a ho]
    rcases ho with ho | ho
    all_goals
      go_enter Tryz.func62, Tryz.ntmps62
      go_wp2
      go_ret
      exact ⟨rfl, (Below.refl _ _).alloc (Nat.le_refl _) _⟩
  · have ho1 : 1 ≤ k := by omega
    have ho2 : k ≤ 18 := by omega
    cases h1 : (k == 1) with
    | true =>
      rw [mayB_num k n a h1]
      go_enter Tryz.func62, Tryz.ntmps62
      go_wp2
      go_ret
      exact ⟨rfl, (Below.refl _ _).alloc (Nat.le_refl _) _⟩
    | false =>
      cases h2 : (k == 2) with
      | true =>
        rw [mayB_var k n a h2]
        by_cases h3 : 0 ≤ n
        · rw [decide_eq_true h3, Bool.true_and]
          go_enter Tryz.func62, Tryz.ntmps62
          go_wp2
          go_ret
          exact ⟨rfl, (Below.refl _ _).alloc (Nat.le_refl _) _⟩
        · rw [decide_eq_false h3, Bool.false_and]
          have h3' : n < 0 := by omega
          go_enter Tryz.func62, Tryz.ntmps62
          go_wp2
          go_ret
          exact ⟨rfl, (Below.refl _ _).alloc (Nat.le_refl _) _⟩
      | false =>
        rw [mayB_else k n a ⟨ho1, ho2⟩ h1 h2]
        go_enter Tryz.func62, Tryz.ntmps62
        go_wp2
        go_ret
        exact ⟨rfl, (Below.refl _ _).alloc (Nat.le_refl _) _⟩
set_option maxHeartbeats 1000000 in
theorem textOf_var (n a : Int) (w : World) (h0 : 0 ≤ n) (h1 : n ≤ 25) :
    Calls Tryz.prog 63 #[.agg #[.int .i64 2, .int .i64 n, .int .i64 a]] w fun e w' => e = .returned (.string (bytes [UInt8.ofNat (97 + n.toNat)])) ∧ Below w.heap.size w w' := by
  go_enter Tryz.func63, Tryz.ntmps63
  go_wp2
  go_ret
  refine ⟨?_, (Below.refl _ _).alloc (Nat.le_refl _) _⟩
  rw [← encode_letter n h0 h1]
  rfl
set_option maxHeartbeats 1000000 in
theorem textOf_num (n a : Int) (w : World) (hL : Laid w) (h0 : 0 ≤ n) (h1 : n ≤ 9223372036854775807) :
    Calls Tryz.prog 63 #[.agg #[.int .i64 1, .int .i64 n, .int .i64 a]] w fun e w' => e = .returned (.string (bytes (Lib.itoa n))) ∧ Below w.heap.size w w' := by
  have hb : Below w.heap.size w (w.alloc (.cells #[.int .i64 1, .int .i64 n, .int .i64 a] 40)) := (Below.refl _ _).alloc (Nat.le_refl _) _
  have HT := Lib.hid (hL.after hb).2.2.2.2
  clear hb
  go_enter Tryz.func63, Tryz.ntmps63
  go_wp2_with (go_at_call 69; refine (Tryz.strconv_FormatInt_10 n (by omega) h1 _ HT.out).mono ?_; rintro e w' ⟨rfl, kk, os, rfl⟩)
  go_ret
  exact ⟨rfl, ((Below.refl _ _).alloc (Nat.le_refl _) _).trans ((grow_below _ _ _).mono (by simp))⟩
set_option maxHeartbeats 1000000 in
theorem textOf_fix (k : Nat) (n a : Int) (w : World) (hL : Laid w) (h0 : 3 ≤ k) (h1 : k ≤ 18) :
    Calls Tryz.prog 63 #[.agg #[.int .i64 (k : Int), .int .i64 n, .int .i64 a]] w fun e w' => e = .returned (.string (bytes (texts.getD k []))) ∧ Below w.heap.size w w' := by
  have hc : (w.alloc (.cells #[.int .i64 (k : Int), .int .i64 n, .int .i64 a] 40)).cell? ⟨1, k, none⟩ = some (.string (bytes (texts.getD k []))) := by
    rw [World.cell?_alloc_lt _ _ ⟨1, k, none⟩ (by have := hL.1; simp only; omega)]; exact hL.text k (by omega)
  have e1 : ((k : Int) == 1) = false := by simp; omega
  have e2 : ((k : Int) == 2) = false := by simp; omega
  go_enter Tryz.func63, Tryz.ntmps63
  go_wp2
  go_ret
  exact ⟨rfl, (Below.refl _ _).alloc (Nat.le_refl _) _⟩
theorem textOf_any (t : Tk) (w : World) (hL : Laid w) (hm : mayB t = true) (hn : t.2.1 ≤ 9223372036854775807) :
    Calls Tryz.prog 63 #[.agg #[.int .i64 t.1, .int .i64 t.2.1, .int .i64 t.2.2]] w fun e w' => e = .returned (.string (bytes (textB t))) ∧ Below w.heap.size w w' := by
  obtain ⟨k, n, a⟩ := t
  obtain ⟨h1, h2, h3, h4, h5⟩ := mayB_range hm
  simp only at *
  unfold textB
  simp only
  by_cases e1 : k = 1
  · subst e1; rw [if_pos rfl]; exact textOf_num n a w hL (h3 rfl) hn
  · rw [if_neg e1]
    by_cases e2 : k = 2
    · subst e2; rw [if_pos rfl]; exact textOf_var n a w (h4 rfl).1 (h4 rfl).2
    · rw [if_neg e2]
      have := textOf_fix k.toNat n a w hL (by omega) (by omega)
      rwa [show (k.toNat : Int) = k from by omega] at this
end Go.Proofs.YtdeopkjpglkdhaaGreatDoor
